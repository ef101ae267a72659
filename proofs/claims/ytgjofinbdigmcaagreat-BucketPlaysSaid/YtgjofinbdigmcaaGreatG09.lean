/- Contracts of the methods Push and Pop of the heap's places. Contracts of the library's up and down over the program's heap. -/
import Derived.Test.YtgjofinbdigmcaaGreatG08
set_option linter.unusedSimpArgs false
set_option linter.unusedVariables false
set_option maxHeartbeats 1000000
set_option maxRecDepth 100000
section
namespace Go.Proofs.YtgjofinbdigmcaaGreat.Exp
open Go.Proofs.YtgjofinbdigmcaaGreat.Mem
open Go.ChangeShapes Go.WideShapes Go.ChangeAt Go.RowKit
theorem rowI_snoc (l:List It) (x:It):rowI l++icells x=rowI (l++[x]):=by simp [rowI,List.flatMap_append]
theorem sees_item (w:World) (x:It) (t:TypeId) (fr:Nat × Nat) (g:Nat) (hg:g=w.heap.size):Sees (w.alloc (.cells (icells x).toArray t fr)) 2 (.slice (some ⟨g,0,none⟩) 1 1) 1 (icells x):=by
 subst hg
 refine .inr ⟨_,_,rfl,by simp [icells_length],fun j u hu=>?_⟩
 refine ⟨by simp,?_⟩
 rw [add_none,Nat.zero_add,World.cell?_alloc_mark]
 simpa using hu
theorem assert_item (v:Value) (w:World):(Instr.typeAssert (.iface 68 v) 20 68 false).run Tryz.prog w = .ok v w:=by kernel_rfl
theorem own_slice {w:World} {B n:Nat} {e:TypeId} {v:Value} {xs:List Value} (h:w.ownsRow B e 2 v n xs):∃ a c,v = .slice a n c:=by
 rcases h.2 with ⟨h1,h2⟩|⟨g,cap,cur,h1,_⟩
 ·exact ⟨none,0,by rw [h1,h2]⟩
 ·exact ⟨_,_,h1⟩
section
variable {w:World} {B p:Nat} {v:Value} {l:List It}
theorem ppush_any (h:HAt w B p v l) (x:It) (hl:l.length+1≤1000) :
  Calls Tryz.prog 171 #[.pointer (some ⟨p,0,none⟩),.iface 68 (.agg #[.int .u64 (x.time:Int),.string x.key])] w fun e w'=>e = .returned (.tuple #[])∧∃ v',HAt w' B p v' (l++[x])∧But (Foot p v) w w'∧Next w v v':=by
 obtain ⟨i0,hi0,hz⟩:=Option.map_eq_some_iff.1 item_info
 simp only [Prod.mk.injEq] at hz
 obtain ⟨hz0,hz1,hz2⟩:=hz
 have hta:=assert_item
 have H:=Lib.hid h
 obtain ⟨n,hn⟩:∃ n,n=l.length:=⟨_,rfl⟩
 have HN:=Lib.hid hn
 rw [← hn] at hl
 have hpb:=h.lt
 have hB:=h.base
 have HS0:=Lib.hid (show w.drew.cell? ⟨p,0,none⟩=some v from h.blk.cell 0)
 have HO0:=Lib.hid (show w.drew.ownsRow B 68 2 v l.length (rowI l) from h.own)
 clear h hn
 go_enter Tryz.func171,Tryz.ntmps171
 go_wp2_with fail
 refine Late.region_goes (fun V=>V.cell? ⟨p,0,none⟩=some v) (fun i=>i == 9) (by kernel_rfl) ?_ (fun hH=>?_)
 ·exact HS0.out
 refine Late.Goes.takeT (i:=0) (v:=?_) (by simp only [List.getElem?_toArray,List.getElem?_cons_succ,List.getElem?_cons_zero];rfl) (by kernel_rfl) (by kernel_rfl) (by kernel_rfl) (by kernel_rfl) (by kernel_rfl) (by exact fun _ _ _ h=>h) (Or.inl ⟨by rfl,?_⟩) hH ?_
 rotate_left
 ·(intro wy hSw;(try dsimp only at hSw);skip;go_simp;try (with_reducible rfl))
 try simp only [Act.put,List.setIfInBounds_toArray,List.set_cons_zero,List.set_cons_succ]
 refine Late.Goes.takeT (i:=1) (v:=?_) (by simp only [List.getElem?_toArray,List.getElem?_cons_succ,List.getElem?_cons_zero];rfl) (by kernel_rfl) (by kernel_rfl) (by kernel_rfl) (by kernel_rfl) (by kernel_rfl) (by exact fun _ _ _ h=>h) (Or.inl ⟨by rfl,?_⟩) hH ?_
 rotate_left
 ·(intro wy hSw;(try dsimp only at hSw);skip;go_simp;try (with_reducible rfl))
 try simp only [Act.put,List.setIfInBounds_toArray,List.set_cons_zero,List.set_cons_succ]
 refine Late.Goes.takeT (i:=2) (v:=?_) (by simp only [List.getElem?_toArray,List.getElem?_cons_succ,List.getElem?_cons_zero];rfl) (by kernel_rfl) (by kernel_rfl) (by kernel_rfl) (by kernel_rfl) (by kernel_rfl) (by exact fun _ _ _ h=>h) (Or.inl ⟨by rfl,?_⟩) hH ?_
 rotate_left
 ·(intro wy hSw;(try dsimp only at hSw);skip;go_simp;try (with_reducible rfl))
 try simp only [Act.put,List.setIfInBounds_toArray,List.set_cons_zero,List.set_cons_succ]
 refine Late.Goes.takeT (i:=3) (v:=?_) (by simp only [List.getElem?_toArray,List.getElem?_cons_succ,List.getElem?_cons_zero];rfl) (by kernel_rfl) (by kernel_rfl) (by kernel_rfl) (by kernel_rfl) (by kernel_rfl) (by exact fun _ _ _ h=>h) (Or.inl ⟨by rfl,?_⟩) hH ?_
 rotate_left
 ·(intro wy hSw;(try dsimp only at hSw);skip;go_simp;try (with_reducible rfl))
 try simp only [Act.put,List.setIfInBounds_toArray,List.set_cons_zero,List.set_cons_succ]
 refine Late.Goes.takeT (i:=4) (v:=?_) (by simp only [List.getElem?_toArray,List.getElem?_cons_succ,List.getElem?_cons_zero];rfl) (by kernel_rfl) (by kernel_rfl) (by kernel_rfl) (by kernel_rfl) (by kernel_rfl) (by exact fun _ _ _ h=>h) (Or.inl ⟨by rfl,?_⟩) hH ?_
 rotate_left
 ·(intro wy hSw;(try dsimp only at hSw);skip;go_simp;try (with_reducible rfl))
 try simp only [Act.put,List.setIfInBounds_toArray,List.set_cons_zero,List.set_cons_succ]
 refine Late.Goes.takeT (i:=5) (v:=?_) (by simp only [List.getElem?_toArray,List.getElem?_cons_succ,List.getElem?_cons_zero];rfl) (by kernel_rfl) (by kernel_rfl) (by kernel_rfl) (by kernel_rfl) (by kernel_rfl) (by exact fun _ _ _ h=>h) (Or.inl ⟨by rfl,?_⟩) hH ?_
 rotate_left
 ·(intro wy hSw;(try dsimp only at hSw);skip;go_simp;try (with_reducible rfl))
 try simp only [Act.put,List.setIfInBounds_toArray,List.set_cons_zero,List.set_cons_succ]
 refine Late.Goes.one (i:=6) (by kernel_rfl) (by simp only [List.getElem?_toArray,List.getElem?_cons_succ,List.getElem?_cons_zero];rfl) (fun K hK=>?_)
 clear hH
 go_simp
 have hb6:But (fun _=>False) w (w.alloc (.cells #[.int .u64 (x.time:Int),.string x.key] 68)).drew:=((But.refl (fun _=>False) w).alloc (.cells #[.int .u64 (x.time:Int),.string x.key] 68)).drew
 have HS6:=Lib.hid (show (w.alloc (.cells #[.int .u64 (x.time:Int),.string x.key] 68)).drew.cell? ⟨p,0,none⟩=some v from (hb6.cell (p:=⟨p,0,none⟩) hpb.1 (fun h=>h)).trans HS0.out)
 have HH6:=Lib.hid (H.out.new hb6)
 have HE6:=Lib.hid (show Sees (w.alloc (.cells #[.int .u64 (x.time:Int),.string x.key] 68)).drew 2 (.slice (some ⟨w.heap.size,0,none⟩) 1 1) 1 (icells x) from sees_item w x _ _ _ rfl)
 have HB6:=Lib.hid hb6
 clear hb6
 generalize (w.alloc (.cells #[.int .u64 (x.time:Int),.string x.key] 68)).drew=W1 at HS6 HH6 HE6 HB6 ⊢
 refine hK.out _ _ ?_ (fun hH=>?_)
 ·exact fun _=>HS6.out
 clear hK K
 have hH:=hH rfl
 try simp only [Act.put,List.setIfInBounds_toArray,List.set_cons_zero,List.set_cons_succ]
 refine Late.Goes.one (i:=7) (by kernel_rfl) (by simp only [List.getElem?_toArray,List.getElem?_cons_succ,List.getElem?_cons_zero];rfl) (fun K hK=>?_)
 clear hH
 refine step_append_onto rfl (.tmp 7) (.tmp 10) _ rfl B 68 i0 _ 2 24 Tryz.underlying95 hi0 hz0 hz1 hz2 rfl (by omega) v l.length (rowI l) rfl HH6.out.own (.slice (some ⟨w.heap.size,0,none⟩) 1 1) 1 (icells x) rfl HE6.out (icells_one x) (by rw [← HN.out];unfold maxLen;omega) (by rw [← HN.out];omega) (by have:=HB6.out.size;omega) ?_
 intro v2 w2 ho2 hon2
 obtain ⟨a2,c2,rfl⟩:=own_slice ho2
 rw [rowI_snoc] at ho2
 have hne:∀ k,v.ownBlock=some k→k≠p:=fun k hk=>(hpb.2 k hk).2.2
 have hs2:=(hon2.but.cell (p:=⟨p,0,none⟩) (by have:=HB6.out.size;have:=hpb.1;show p < _;omega) (fun e=>hne p e.symm rfl)).trans HS6.out
 have hbk2:=HH6.out.blk.but hon2.but (fun e=>hne p e.symm rfl)
 have hb2:But (Foot p v) w w2:=(HB6.out.mono (fun _ _ h=>h.elim)).trans hon2.but (fun i _ e => .inr e)
 have hn2:Next w v (.slice a2 (l.length+1) c2):=by
  rcases hon2.own with h|h
  ·exact .inl h
  ·exact .inr (fun k hk=>Nat.le_trans HB6.out.size (h k hk))
 have HS2:=Lib.hid hs2
 have HK2:=Lib.hid hbk2
 have HB2:=Lib.hid hb2
 have HN2:=Lib.hid hn2
 have HO2:=Lib.hid ho2
 have hfr:w2.frozen? ⟨p,0,none⟩=false:=hbk2.frozen 0
 clear hs2 hbk2 hb2 hn2 ho2 hon2 hne HS6 HH6 HE6 HB6 hz0 hz1 hz2 hi0
 refine hK.out _ _ ?_ (fun hH=>?_)
 ·exact fun _=>HS2.out
 clear hK K
 have hH:=hH rfl
 try simp only [Act.put,List.setIfInBounds_toArray,List.set_cons_zero,List.set_cons_succ]
 refine Late.Goes.takeT (i:=8) (v:=?_) (by simp only [List.getElem?_toArray,List.getElem?_cons_succ,List.getElem?_cons_zero];rfl) (by kernel_rfl) (by kernel_rfl) (by kernel_rfl) (by kernel_rfl) (by kernel_rfl) (by exact fun _ _ _ h=>h) (Or.inl ⟨by rfl,?_⟩) hH ?_
 rotate_left
 ·(intro wy hSw;(try dsimp only at hSw);skip;go_simp;try (with_reducible rfl))
 try simp only [Act.put,List.setIfInBounds_toArray,List.set_cons_zero,List.set_cons_succ]
 refine Late.Goes.one (i:=9) (by kernel_rfl) (by simp only [List.getElem?_toArray,List.getElem?_cons_succ,List.getElem?_cons_zero];rfl) (fun K hK=>?_)
 clear hH
 have k2:=HS2.out
 go_simp
 have HH3:=Lib.hid (show HAt (w2.setCell ⟨p,0,none⟩ (.slice a2 (l.length+1) c2)) B p (.slice a2 (l.length+1) c2) (l++[x]) from ⟨HK2.out.set_ 0 _,by
  have:=ownsRow_but HO2.out ((But.refl (fun k=>k=p) w2).setCell (p:=⟨p,0,none⟩) rfl (.slice a2 (l.length+1) c2)) (fun k hk e=>own_blk_ne HO2.out HK2.out (by decide) (by rw [hk,e]))
  rwa [show (l++[x]).length=l.length+1 by simp],hB,by rw [List.length_append,← HN.out];exact hl⟩)
 have HB3:=Lib.hid (HB2.out.setCell (p:=⟨p,0,none⟩) (.inl rfl) (.slice a2 (l.length+1) c2))
 clear HK2 HO2 HB2 k2
 refine hK.out _ _ ?_ (fun _=>?_)
 ·exact fun h=>by cases h
 clear hK K
 try simp only [Act.put,List.setIfInBounds_toArray,List.set_cons_zero,List.set_cons_succ]
 refine Late.Goes.done (by kernel_rfl) ?_ _
 go_wp2
 go_end0
 exact ⟨rfl,_,HH3.out,HB3.out,HN2.out⟩
theorem ppop_any {x:It} (h:HAt w B p v (l++[x])) :
  Calls Tryz.prog 170 #[.pointer (some ⟨p,0,none⟩)] w fun e w'=>e = .returned (.iface 68 (.agg #[.int .u64 (x.time:Int),.string x.key]))∧∃ v',HAt w' B p v' l∧But (Foot p v) w w'∧v'.ownBlock=v.ownBlock:=by
 have hlen:(l++[x]).length=l.length+1:=by simp
 obtain ⟨g,cap,rest,hv,hc1,hc2,hBg,hrest,hrow⟩:=h.row (by omega)
 have hpb:=h.lt
 have hB:=h.base
 have hf:=h.few
 have hlx:look (l++[x]) l.length=x:=by simp [look,List.getD]
 rw [hlen] at hv hc1 hrest hf
 subst hv
 have hgp:g≠p:=(hpb.2 g rfl).2.2
 have hrg:=hrow.range (i:=l.length) (by omega)
 rw [hlx] at hrg
 have hth:=hrow.there (i:=l.length) (by omega)
 obtain ⟨n,hn⟩:∃ n,n=l.length:=⟨_,rfl⟩
 have k0:w.cell? ⟨p,0,none⟩=some (.slice (some ⟨g,0,none⟩) (l.length+1) cap):=h.blk.cell 0
 obtain ⟨W1,hW1⟩:∃ W1,W1=w.alloc (.cells #[.int .u64 (x.time:Int),.string x.key] 68):=⟨_,rfl⟩
 have hb1:But (fun _=>False) w W1:=by rw [hW1];exact (But.refl (fun _=>False) w).alloc _
 have hX1:Blk W1 w.heap.size 68 #[.int .u64 (x.time:Int),.string x.key]:=by rw [hW1];exact Blk.new _ _ _
 have hrow1:=hrow.but hb1 (fun h=>h)
 have hblk1:=h.blk.but hb1 (fun h=>h)
 have hth1:=hrow1.there (i:=l.length) (by omega)
 have hrow2:=hrow1.put (i:=l.length) (by omega) nil
 obtain ⟨W2,hW2⟩:∃ W2,W2=W1.setCells g (l.length * 2) (icells nil):=⟨_,rfl⟩
 have hb2:But (fun k=>k=g) W1 W2:=by rw [hW2];exact but_setCells _ _ _ _
 have hblk2:=hblk1.but hb2 (fun e=>hgp e.symm)
 have hX2:=hX1.but hb2 (fun e=>by have:=hrow.blk.lt;omega)
 rw [← hW2] at hrow2
 obtain ⟨W3,hW3⟩:∃ W3,W3=W2.setCell ⟨p,0,none⟩ (.slice (some ⟨g,0,none⟩) l.length cap):=⟨_,rfl⟩
 have hb3:But (fun k=>k=p) W2 W3:=by rw [hW3];exact (But.refl (fun k=>k=p) W2).setCell (p:=⟨p,0,none⟩) rfl _
 have hX3:=hX2.but hb3 (fun e=>by have:=hpb.1;omega)
 have hrow3:=hrow2.but hb3 hgp
 have hblk3:Blk W3 p 97 #[.slice (some ⟨g,0,none⟩) l.length cap]:=by rw [hW3];exact hblk2.set_ 0 _
 have hset:(l++[x]).set l.length nil=l++[nil]:=by simp
 rw [hset] at hrow3
 have hrow4:IRow W3 68 g l (icells nil++rest):=⟨by
  have:=hrow3.blk
  rw [← rowI_snoc,List.append_assoc] at this
  exact this⟩
 have HEND:=Lib.hid (show ∃ v',HAt W3 B p v' l∧But (Foot p (.slice (some ⟨g,0,none⟩) (l.length+1) cap)) w W3∧v'.ownBlock=(Value.slice (some ⟨g,0,none⟩) (l.length+1) cap).ownBlock from by
  refine ⟨.slice (some ⟨g,0,none⟩) l.length cap,⟨hblk3,own_of_row hrow4 hBg (by omega) hc2 ?_,hB,by omega⟩,?_,rfl⟩
  ·rw [List.length_append,icells_length,hrest];omega
  ·exact ((hb1.mono (fun _ _ h=>h.elim)).trans hb2 (fun i _ e => .inr (by rw [e];rfl))).trans hb3 (fun i _ e => .inl e))
 have k1:W1.cell? ⟨p,0,none⟩=some (.slice (some ⟨g,0,none⟩) (l.length+1) cap):=hblk1.cell 0
 have k2:W2.cell? ⟨p,0,none⟩=some (.slice (some ⟨g,0,none⟩) (l.length+1) cap):=hblk2.cell 0
 have f2:W2.frozen? ⟨p,0,none⟩=false:=hblk2.frozen 0
 have x0:W3.cell? ⟨w.heap.size,0,none⟩=some (.int .u64 (x.time:Int)):=hX3.cell 0
 have x1:W3.cell? ⟨w.heap.size,1,none⟩=some (.string x.key):=hX3.cell 1
 have HT1:=Lib.hid hth1
 have HW1:=Lib.hid hW1
 have HW2:=Lib.hid hW2
 have HW3:=Lib.hid hW3
 obtain ⟨n,hn⟩:∃ n,n=l.length:=⟨_,rfl⟩
 rw [← hn] at k0 k1 k2 hc1 hf hrg HEND HT1 HW2 HW3
 have HRG:=Lib.hid hrg
 have hn3:((n+1:Nat):Int)=(n:Int)+1:=by omega
 clear h hrow hth hrg hn hpb hb1 hX1 hrow1 hblk1 hth1 hrow2 hb2 hblk2 hX2 hb3 hX3 hrow3 hblk3 hset hrow4 hW1 hW2 hW3 hlen hlx hrest
 go_enter Tryz.func170,Tryz.ntmps170
 rw [HW1.out] at k1
 rw [HW3.out] at x0 x1
 go_wp2_with (first
  | (refine wpList_load_mid rfl 68 _ rfl g (n * 2) rfl [.int .u64 (x.time:Int),.string x.key] _ HRG.out Tryz.underlying68 rfl item_size ?_)
  | (refine wpList_store_mid rfl 68 _ _ rfl g (n * 2) (icells nil).toArray rfl rfl (by rw [HW1.out] at HT1;simpa [icells_length] using HT1.out) (by simp only [List.size_toArray,icells_length];exact item_size) (all_oneCell_toArray (icells_one nil)) ?_
     change wpList _ _ _ _ _ ((w.alloc (.cells #[.int .u64 (x.time:Int),.string x.key] 68)).setCells g (n * 2) (icells nil))
     rw [← HW1.out,← HW2.out]
     clear k0 k1))
 go_ret
 refine ⟨rfl,?_⟩
 rw [← HW3.out]
 exact HEND.out
end
end Go.Proofs.YtgjofinbdigmcaaGreat.Exp
end
section
namespace Go.Proofs.YtgjofinbdigmcaaGreat.Exp
open Go.Proofs.YtgjofinbdigmcaaGreat.Mem
open Go.ChangeShapes Go.WideShapes Go.ChangeAt Go.RowKit
theorem swap_comm (l:List It) {i j:Nat} (h:i≠j):swap l i j=swap l j i:=by
 unfold swap
 exact List.set_comm _ _ h
section
variable {w:World} {B p:Nat} {v:Value} {l:List It}
theorem HAt.m1 (h : HAt w B p v l) : Sem.run Tryz.prog (method (Tryz.prog.types.size + 100) 132 (.pointer (some ⟨p, 0, none⟩)) "Len") w = .ok (165, v) w := m_len (h.blk.cell 0)
theorem HAt.m2 (h : HAt w B p v l) : Sem.run Tryz.prog (method (Tryz.prog.types.size + 100) 132 (.pointer (some ⟨p, 0, none⟩)) "Less") w = .ok (166, v) w := m_less (h.blk.cell 0)
theorem HAt.m3 (h : HAt w B p v l) : Sem.run Tryz.prog (method (Tryz.prog.types.size + 100) 132 (.pointer (some ⟨p, 0, none⟩)) "Swap") w = .ok (167, v) w := m_swap (h.blk.cell 0)
theorem HAt.len_ (h:HAt w B p v l):Calls Tryz.prog 165 #[v] w fun e w'=>e = .returned (.int .i64 (l.length:Int))∧w'=w:=by
 obtain ⟨a,c,rfl⟩:=h.shape
 exact len_at w a _ c
theorem HAt.drewN (h:HAt w B p v l) (q:Nat):HAt (w.drewN q) B p v l:=h.but ((But.refl (fun _=>False) w).drewN q) (fun h=>h) (fun _ _ h=>h)
theorem HAt.less_ (h:HAt w B p v l) {i j:Nat} (hi:i < l.length) (hj:j < l.length) :
  Calls Tryz.prog 166 #[v,.int .i64 (i:Int),.int .i64 (j:Int)] w fun e w'=>e = .returned (.bool (Exp.lt (look l i) (look l j)))∧HAt w' B p v l∧But (Foot p v) w w':=by
 obtain ⟨g,cap,rest,rfl,hc1,hc2,hBg,hrest,hrow⟩:=h.row (by omega)
 refine (less_at hrow hi hj h.few cap).mono ?_
 rintro e w' ⟨rfl,q,rfl⟩
 exact ⟨rfl,h.drewN q,(But.refl _ w).drewN q⟩
theorem HAt.swap_ (h:HAt w B p v l) {i j:Nat} (hi:i < l.length) (hj:j < l.length) :
  Calls Tryz.prog 167 #[v,.int .i64 (i:Int),.int .i64 (j:Int)] w fun e w'=>e = .returned (.tuple #[])∧HAt w' B p v (swap l i j)∧But (Foot p v) w w':=by
 have hlt:=h.lt
 obtain ⟨g,cap,rest,rfl,hc1,hc2,hBg,hrest,hrow⟩:=h.row (by omega)
 refine (swap_at hrow hi hj h.few cap).mono ?_
 rintro e w' ⟨rfl,hrow2,hb⟩
 have hl:=swap_length l i j
 refine ⟨rfl,⟨h.blk.but hb (fun e=>(hlt.2 g rfl).2.2 e.symm),?_,h.base,by rw [hl];exact h.few⟩,hb.mono (fun k _ e => .inr (by rw [e];rfl))⟩
 have:=own_of_row (l:=swap l i j) hrow2 hBg (by rw [hl];exact hc1) hc2 (by rw [hl];exact hrest)
 rw [hl] at this
 rw [hl]
 exact this
def Upping (w:World) (B p:Nat) (v:Value) (R:List It) (n j:Nat) (wr:World):Prop :=
 ∃ (l':List It) (f:Nat),l'.length=n∧j < n∧j < f∧up f l' j=R∧HAt wr B p v l'∧But (Foot p v) w wr
theorem hup_any (h:HAt w B p v l) {j:Nat} (hj:j < l.length) :
  Calls Tryz.prog 101 #[.iface 132 (.pointer (some ⟨p,0,none⟩)),.int .i64 (j:Int)] w fun e w'=>e = .returned (.tuple #[])∧HAt w' B p v (up (j+1) l j)∧But (Foot p v) w w':=by
 have hf:=h.few
 obtain ⟨R,hR⟩:∃ R,R=up (j+1) l j:=⟨_,rfl⟩
 rw [← hR]
 obtain ⟨n,hn⟩:∃ n,n=l.length:=⟨_,rfl⟩
 have HS:=Lib.hid (show Upping w B p v R n j w from ⟨l,j+1,hn.symm,by omega,by omega,hR.symm,h,But.refl _ w⟩)
 rw [← hn] at hf
 clear h hR hn hj
 go_enter Tryz.func101,Tryz.ntmps101
 go_wp2_with fail
 go_loopw [1] (fun x wr=>∃ k:Nat,x = .int .i64 (k:Int)∧Upping w B p v R n k wr) (fun x _=>(intOf x).toNat)
 case atStart=>exact ⟨j,rfl,HS.out⟩
 case round =>
  obtain ⟨k,rfl,l',f,hl,hk,hkf,hup,hA,hB⟩:=hrel
  have mL:=hA.m2
  simp at mL
  have HA:=Lib.hid hA
  have HB:=Lib.hid hB
  have HU:=Lib.hid hup
  have HLN:=Lib.hid hl
  by_cases h0:k=0
  ·subst h0
   clear hA hB hup hl
   go_wp2_with fail
   go_end0
   have:up f l' 0=l':=by
    cases f with
    | zero=>rfl
    | succ f=>unfold up;rw [if_neg (by omega)]
   rw [← HU.out,this]
   exact ⟨rfl,HA.out,HB.out⟩
  ·obtain ⟨P,hP⟩:∃ P,P=par k:=⟨_,rfl⟩
   have hpk:=par_lt (i:=k) (by omega)
   rw [← hP] at hpk
   have hq:((k:Int) - 1).tdiv 2=(P:Int):=by rw [hP,Int.tdiv_eq_ediv_of_nonneg (by omega)];unfold par;omega
   have hne:((P:Int) == (k:Int))=false:=beq_eq_false_iff_ne.2 (by omega)
   have HC:=Lib.hid (hA.less_ (i:=k) (j:=P) (by omega) (by omega))
   obtain ⟨f',rfl⟩:∃ f',f=f'+1:=⟨f - 1,by omega⟩
   have HP:=Lib.hid hP
   clear hA hB hup hl hP
   go_wp2_with fail
   refine HC.out.mono ?_
   rintro e w1 ⟨rfl,hA1,hB1⟩
   have HA1:=Lib.hid hA1
   have HB1:=Lib.hid (HB.out.trans' hB1)
   have mS:=hA1.m3
   simp at mS
   have HSW:=Lib.hid (hA1.swap_ (i:=P) (j:=k) (by rw [HLN.out];omega) (by rw [HLN.out];omega))
   obtain ⟨b,hb⟩:∃ b,b=Exp.lt (look l' k) (look l' P):=⟨_,rfl⟩
   rw [← hb]
   have HBL:=Lib.hid hb
   clear hA1 hB1 hb mL HC HA HB
   cases b with
   | false =>
    go_wp2_with fail
    go_end0
    refine ⟨rfl,?_,HB1.out⟩
    have hu:=HU.out
    unfold up at hu
    rw [if_neg (fun hc=>by rw [← HP.out,← HBL.out] at hc;cases hc.2)] at hu
    rw [← hu]
    exact HA1.out
   | true =>
    go_wp2_with fail
    refine HSW.out.mono ?_
    rintro e w2 ⟨rfl,hA2,hB2⟩
    have HST:=Lib.hid (show Upping w B p v R n P w2 from by
     refine ⟨swap l' P k,f',by rw [swap_length];exact HLN.out,by omega,by omega,?_,hA2,HB1.out.trans' hB2⟩
     have hu:=HU.out
     unfold up at hu
     rw [← HP.out,if_pos ⟨by omega,HBL.out.symm⟩,swap_comm _ (by omega)] at hu
     exact hu)
    clear hA2 hB2 mS HSW
    go_wp2_with fail
    go_roundw
    case rel=>exact ⟨P,rfl,HST.out⟩
    case measure=>simp [intOf];omega
def Downing (w:World) (B p:Nat) (v:Value) (R tail:List It) (n m j:Nat) (wr:World):Prop :=
 ∃ (l':List It) (f:Nat),l'.length=m∧j≤n∧m < f+j+1∧down f l' j=R∧HAt wr B p v (l'++tail)∧But (Foot p v) w wr
def Told (e:Ending):Prop:=∃ b,e = .returned (.bool b)
theorem look_app {a b:List It} {i:Nat} (h:i < a.length):look (a++b) i=look a i:=by simp [look,List.getD,List.getElem?_append_left h]
theorem swap_app {a b:List It} {i j:Nat} (hi:i < a.length) (hj:j < a.length):swap (a++b) i j=swap a i j++b:=by
 unfold swap
 rw [look_app hi,look_app hj,List.set_append_left _ _ hi,List.set_append_left _ _ (by rw [List.length_set];exact hj)]
theorem least_eq (l:List It) (j:Nat):least l j=if 2 * j+2 < l.length∧Exp.lt (look l (2 * j+2)) (look l (2 * j+1))=true then 2 * j+2 else 2 * j+1:=rfl
theorem hdown_any {l tail:List It} (h:HAt w B p v (l++tail)) :
  Calls Tryz.prog 99 #[.iface 132 (.pointer (some ⟨p,0,none⟩)),.int .i64 0,.int .i64 (l.length:Int)] w fun e w'=>Told e∧HAt w' B p v (down (l.length+1) l 0++tail)∧But (Foot p v) w w':=by
 have hf:=h.few
 rw [List.length_append] at hf
 obtain ⟨R,hR⟩:∃ R,R=down (l.length+1) l 0:=⟨_,rfl⟩
 rw [← hR]
 obtain ⟨n,hn⟩:∃ n,n=l.length:=⟨_,rfl⟩
 have HS:=Lib.hid (show Downing w B p v R tail n n 0 w from ⟨l,l.length+1,hn.symm,by omega,by omega,hR.symm,h,But.refl _ w⟩)
 rw [← hn] at hf ⊢
 clear h hR hn
 go_enter Tryz.func99,Tryz.ntmps99
 go_wp2_with fail
 go_loopw [7] (fun x wr=>∃ k:Nat,x = .int .i64 (k:Int)∧Downing w B p v R tail n n k wr) (fun x _=>n - (intOf x).toNat)
 case atStart=>exact ⟨0,rfl,HS.out⟩
 case round =>
  obtain ⟨k,rfl,l',f,hl,hk,hkf,hup,hA,hB⟩:=hrel
  have mL:=hA.m2
  simp at mL
  have HA:=Lib.hid hA
  have HB:=Lib.hid hB
  have HU:=Lib.hid hup
  have HLN:=Lib.hid hl
  by_cases h0:n≤2 * k+1
  ·clear hA hB hup hl
   go_wp2_with fail
   go_ret
   refine ⟨⟨_,rfl⟩,?_,HB.out⟩
   have:down f l' k=l':=by
    cases f with
    | zero=>rfl
    | succ f=>unfold down;rw [if_neg (by rw [HLN.out];omega)]
   rw [← HU.out,this]
   exact HA.out
  ·obtain ⟨f',rfl⟩:∃ f',f=f'+1:=⟨f - 1,by omega⟩
   have HB1:=HB
   by_cases h2:2 * k+2 < n
   ·have HL1:=Lib.hid (hA.less_ (i:=2 * k+2) (j:=2 * k+1) (by rw [List.length_append,HLN.out];omega) (by rw [List.length_append,HLN.out];omega))
    rw [look_app (by rw [HLN.out];omega),look_app (by rw [HLN.out];omega)] at HL1
    have z1:((2 * k+1:Nat):Int)=2 * (k:Int)+1:=by omega
    have z2:((2 * k+2:Nat):Int)=2 * (k:Int)+1+1:=by omega
    rw [z1,z2] at HL1
    clear z1 z2
    obtain ⟨b,hb⟩:∃ b,b=Exp.lt (look l' (2 * k+2)) (look l' (2 * k+1)):=⟨_,rfl⟩
    rw [← hb] at HL1
    have hl2:2 * (k:Int)+1+1 < (n:Int):=by omega
    have hle:least l' k=if b=true then 2 * k+2 else 2 * k+1:=by
     rw [least_eq,← hb,HLN.out]
     simp [h2]
    have HLE:=Lib.hid hle
    clear hA hB hup hl hb HB hle
    go_wp2_with fail
    refine HL1.out.mono ?_
    rintro e w1 ⟨rfl,hA1,hB1⟩
    have HB1:=Lib.hid (HB1.out.trans' hB1)
    clear hB1 mL HL1 HA
    cases b with
    | false =>
     have hJ:least l' k=2 * k+1:=HLE.out
     have HL2:=Lib.hid (hA1.less_ (i:=2 * k+1) (j:=k) (by rw [List.length_append,HLN.out];omega) (by rw [List.length_append,HLN.out];omega))
     rw [look_app (by rw [HLN.out];omega),look_app (by rw [HLN.out];omega)] at HL2
     have mL2:=hA1.m2
     simp at mL2
     obtain ⟨d,hd⟩:∃ d,d=Exp.lt (look l' (2 * k+1)) (look l' k):=⟨_,rfl⟩
     rw [← hd] at HL2
     have HDD:=Lib.hid hd
     have HJ:=Lib.hid hJ
     have z1:((2 * k+1:Nat):Int)=2 * (k:Int)+1:=by omega
     have z2:((2 * k+2:Nat):Int)=2 * (k:Int)+1+1:=by omega
     rw [z1] at HL2
     have HZ:=Lib.hid z1
     clear z1 z2
     clear hA1 hd hJ
     go_wp2_with fail
     refine HL2.out.mono ?_
     rintro e w2 ⟨rfl,hA2,hB2⟩
     have HB2:=Lib.hid (HB1.out.trans' hB2)
     have HA2:=Lib.hid hA2
     have mS:=hA2.m3
     simp at mS
     have HSW:=Lib.hid (hA2.swap_ (i:=k) (j:=2 * k+1) (by rw [List.length_append,HLN.out];omega) (by rw [List.length_append,HLN.out];omega))
     rw [swap_app (by rw [HLN.out];omega) (by rw [HLN.out];omega)] at HSW
     rw [HZ.out] at HSW
     clear hA2 hB2 HL2 mL2 HB1
     cases d with
     | false =>
      go_wp2_with fail
      go_ret
      refine ⟨⟨_,rfl⟩,?_,HB2.out⟩
      have hu:=HU.out
      unfold down at hu
      rw [if_pos (by rw [HLN.out];omega),if_neg (fun hc=>by rw [HJ.out,← HDD.out] at hc;cases hc)] at hu
      rw [← hu]
      exact HA2.out
     | true =>
      go_wp2_with fail
      refine HSW.out.mono ?_
      rintro e w3 ⟨rfl,hA3,hB3⟩
      have HST:=Lib.hid (show Downing w B p v R tail n n (2 * k+1) w3 from by
       refine ⟨swap l' k (2 * k+1),f',by rw [swap_length];exact HLN.out,by omega,by omega,?_,hA3,HB2.out.trans' hB3⟩
       have hu:=HU.out
       unfold down at hu
       rw [if_pos (by rw [HLN.out];omega),HJ.out,if_pos HDD.out.symm] at hu
       exact hu)
      clear hA3 hB3 mS HSW
      go_wp2_with fail
      go_roundw
      case rel=>exact ⟨2 * k+1,by go_num,HST.out⟩
      case measure=>simp [intOf];omega
    | true =>
     have hJ:least l' k=2 * k+2:=HLE.out
     have HL2:=Lib.hid (hA1.less_ (i:=2 * k+2) (j:=k) (by rw [List.length_append,HLN.out];omega) (by rw [List.length_append,HLN.out];omega))
     rw [look_app (by rw [HLN.out];omega),look_app (by rw [HLN.out];omega)] at HL2
     have mL2:=hA1.m2
     simp at mL2
     obtain ⟨d,hd⟩:∃ d,d=Exp.lt (look l' (2 * k+2)) (look l' k):=⟨_,rfl⟩
     rw [← hd] at HL2
     have HDD:=Lib.hid hd
     have HJ:=Lib.hid hJ
     have z1:((2 * k+1:Nat):Int)=2 * (k:Int)+1:=by omega
     have z2:((2 * k+2:Nat):Int)=2 * (k:Int)+1+1:=by omega
     rw [z2] at HL2
     have HZ:=Lib.hid z2
     clear z1 z2
     clear hA1 hd hJ
     go_wp2_with fail
     refine HL2.out.mono ?_
     rintro e w2 ⟨rfl,hA2,hB2⟩
     have HB2:=Lib.hid (HB1.out.trans' hB2)
     have HA2:=Lib.hid hA2
     have mS:=hA2.m3
     simp at mS
     have HSW:=Lib.hid (hA2.swap_ (i:=k) (j:=2 * k+2) (by rw [List.length_append,HLN.out];omega) (by rw [List.length_append,HLN.out];omega))
     rw [swap_app (by rw [HLN.out];omega) (by rw [HLN.out];omega)] at HSW
     rw [HZ.out] at HSW
     clear hA2 hB2 HL2 mL2 HB1
     cases d with
     | false =>
      go_wp2_with fail
      go_ret
      refine ⟨⟨_,rfl⟩,?_,HB2.out⟩
      have hu:=HU.out
      unfold down at hu
      rw [if_pos (by rw [HLN.out];omega),if_neg (fun hc=>by rw [HJ.out,← HDD.out] at hc;cases hc)] at hu
      rw [← hu]
      exact HA2.out
     | true =>
      go_wp2_with fail
      refine HSW.out.mono ?_
      rintro e w3 ⟨rfl,hA3,hB3⟩
      have HST:=Lib.hid (show Downing w B p v R tail n n (2 * k+2) w3 from by
       refine ⟨swap l' k (2 * k+2),f',by rw [swap_length];exact HLN.out,by omega,by omega,?_,hA3,HB2.out.trans' hB3⟩
       have hu:=HU.out
       unfold down at hu
       rw [if_pos (by rw [HLN.out];omega),HJ.out,if_pos HDD.out.symm] at hu
       exact hu)
      clear hA3 hB3 mS HSW
      go_wp2_with fail
      go_roundw
      case rel=>exact ⟨2 * k+2,by go_num,HST.out⟩
      case measure=>simp [intOf];omega
   ·have hA1:=hA
    have hJ:least l' k=2 * k+1:=by rw [least_eq,if_neg (fun hc=>h2 (by rw [← HLN.out];exact hc.1))]
    have hl2:¬ (2 * (k:Int)+1+1 < (n:Int)):=by omega
    clear hA hB hup hl mL HA HB
    have HL2:=Lib.hid (hA1.less_ (i:=2 * k+1) (j:=k) (by rw [List.length_append,HLN.out];omega) (by rw [List.length_append,HLN.out];omega))
    rw [look_app (by rw [HLN.out];omega),look_app (by rw [HLN.out];omega)] at HL2
    have mL2:=hA1.m2
    simp at mL2
    obtain ⟨d,hd⟩:∃ d,d=Exp.lt (look l' (2 * k+1)) (look l' k):=⟨_,rfl⟩
    rw [← hd] at HL2
    have HDD:=Lib.hid hd
    have HJ:=Lib.hid hJ
    have z1:((2 * k+1:Nat):Int)=2 * (k:Int)+1:=by omega
    have z2:((2 * k+2:Nat):Int)=2 * (k:Int)+1+1:=by omega
    rw [z1] at HL2
    have HZ:=Lib.hid z1
    clear z1 z2
    clear hA1 hd hJ
    go_wp2_with fail
    refine HL2.out.mono ?_
    rintro e w2 ⟨rfl,hA2,hB2⟩
    have HB2:=Lib.hid (HB1.out.trans' hB2)
    have HA2:=Lib.hid hA2
    have mS:=hA2.m3
    simp at mS
    have HSW:=Lib.hid (hA2.swap_ (i:=k) (j:=2 * k+1) (by rw [List.length_append,HLN.out];omega) (by rw [List.length_append,HLN.out];omega))
    rw [swap_app (by rw [HLN.out];omega) (by rw [HLN.out];omega)] at HSW
    rw [HZ.out] at HSW
    clear hA2 hB2 HL2 mL2 HB1
    cases d with
    | false =>
     go_wp2_with fail
     go_ret
     refine ⟨⟨_,rfl⟩,?_,HB2.out⟩
     have hu:=HU.out
     unfold down at hu
     rw [if_pos (by rw [HLN.out];omega),if_neg (fun hc=>by rw [HJ.out,← HDD.out] at hc;cases hc)] at hu
     rw [← hu]
     exact HA2.out
    | true =>
     go_wp2_with fail
     refine HSW.out.mono ?_
     rintro e w3 ⟨rfl,hA3,hB3⟩
     have HST:=Lib.hid (show Downing w B p v R tail n n (2 * k+1) w3 from by
      refine ⟨swap l' k (2 * k+1),f',by rw [swap_length];exact HLN.out,by omega,by omega,?_,hA3,HB2.out.trans' hB3⟩
      have hu:=HU.out
      unfold down at hu
      rw [if_pos (by rw [HLN.out];omega),HJ.out,if_pos HDD.out.symm] at hu
      exact hu)
     clear hA3 hB3 mS HSW
     go_wp2_with fail
     go_roundw
     case rel=>exact ⟨2 * k+1,by go_num,HST.out⟩
     case measure=>simp [intOf];omega
end
end Go.Proofs.YtgjofinbdigmcaaGreat.Exp
end

/- The document's drop, put, used, Token, Bytes, Rights, Meta. -/
import Derived.Test.YtgjofinbdigmcaaGreatG33
set_option linter.unusedSimpArgs false
set_option linter.unusedVariables false
set_option maxHeartbeats 2000000
set_option maxRecDepth 100000
namespace Go.Proofs.YtgjofinbdigmcaaGreat.Buk
open Go.Proofs.YtgjofinbdigmcaaGreat.Mem
open Go.ChangeShapes Go.WideShapes Go.ChangeAt Go.RowKit
theorem flat_take {α:Type} {f:α→List Value} {k:Nat} (hf:∀ x,(f x).length=k):∀ (l:List α) (i:Nat),(l.flatMap f).take (i * k)=(l.take i).flatMap f
 | [],i=>by simp
 | x :: l,0=>by simp
 | x :: l,i+1=>by
  rw [List.take_succ_cons,List.flatMap_cons,List.flatMap_cons,← flat_take hf l i,List.take_append,hf,Nat.add_mul,Nat.one_mul,Nat.add_sub_cancel,List.take_of_length_le (by rw [hf];omega)]
theorem flat_drop {α:Type} {f:α→List Value} {k:Nat} (hf:∀ x,(f x).length=k):∀ (l:List α) (i:Nat),(l.flatMap f).drop (i * k)=(l.drop i).flatMap f
 | [],i=>by simp
 | x :: l,0=>by simp
 | x :: l,i+1=>by
  rw [List.drop_succ_cons,List.flatMap_cons,← flat_drop hf l i,List.drop_append,hf,Nat.add_mul,Nat.one_mul,Nat.add_sub_cancel,List.drop_eq_nil_of_le (by rw [hf];omega),List.nil_append]
theorem own_new (w:World) (T:TypeId) (k:Nat) (hk:0 < k):(w.alloc (.cells #[] T)).ownsRow w.heap.size T k (.slice (some ⟨w.heap.size,0,none⟩) 0 0) 0 []:=⟨by simp,.inr ⟨_,0,#[],rfl,Nat.le_refl _,Blk.new w _ _,Nat.le_refl _,Nat.zero_le _,by simp,by simp⟩⟩
section
variable {w w':World} {rp:Nat} {kv tv:Value} {B:Bk} {Ks:List RK}
theorem rdrop_any (h:RM w rp kv tv B Ks) (hl:Ks.length≤1000) (s:ByteArray):Calls Tryz.prog 38 #[.pointer (some ⟨rp,0,none⟩),.string s] w fun e w'=>e = .returned (.tuple #[])∧(∃ kv',RM w' rp kv' tv B (kdrop s Ks))∧But (fun k=>k=rp) w w':=by
 have HFI:=Lib.hid (find_any h (by omega) s)
 have HH:=Lib.hid h
 have hq:=fpl_le s Ks
 have HHA:=Lib.hid (show fhas s Ks=true→fpl s Ks < Ks.length from fun hb=>(fhas_at.1 hb).1)
 have HKD:=Lib.hid (show kdrop s Ks=if fhas s Ks then Ks.take (fpl s Ks)++Ks.drop (fpl s Ks+1) else Ks from rfl)
 obtain ⟨q,hqe⟩:∃ q,q=fpl s Ks:=⟨_,rfl⟩
 obtain ⟨b,hbe⟩:∃ b,b=fhas s Ks:=⟨_,rfl⟩
 rw [← hqe] at HFI hq HHA HKD
 rw [← hbe] at HFI HHA HKD
 clear h hqe hbe
 go_enter Tryz.func38,Tryz.ntmps38
 go_wp2_with fail
 refine HFI.out.mono ?_
 rintro e w1 ⟨rfl,hb1⟩
 have HR1:=Lib.hid (HH.out.new hb1)
 have HB1:=Lib.hid hb1
 clear hb1
 cases b with
 | false =>
  go_wp2_with fail
  go_end0
  exact ⟨rfl,⟨kv,by rw [HKD.out];exact HR1.out⟩,HB1.out.mono (fun _ _ h=>h.elim)⟩
 | true =>
  have hqn:=HHA.out rfl
  obtain ⟨N,hN⟩:∃ N,N=Ks.length:=⟨_,rfl⟩
  have HNN:=Lib.hid hN
  have hrow:=HR1.out.keys
  rw [← hN] at hrow hq hqn hl
  have HC7:=Lib.hid (fun V (hV:But (fun _=>False) w1 V)=>show V.cell? ⟨rp,7,none⟩=some kv from (HR1.out.new hV).blk.cell 7)
  have HF7:=Lib.hid (fun V (hV:But (fun _=>False) w1 V)=>show V.frozen? ⟨rp,7,none⟩=false from (HR1.out.new hV).blk.frozen 7)
  clear hN
  obtain ⟨i0,hi0,hz⟩:=Option.map_eq_some_iff.1 kzero
  simp only [Prod.mk.injEq] at hz
  obtain ⟨hz0,hz1,hz2⟩:=hz
  obtain ⟨y1,hy1,hs1⟩:=own_head hrow Tryz.underlying61 size_key (i:=q) (by omega)
  obtain ⟨y2,hy2,hs2⟩:=own_tail hrow Tryz.underlying61 size_key (i:=q+1) (by omega)
  have HS1:=Lib.hid hs1
  have HS2:=Lib.hid hs2
  have HY1:=Lib.hid hy1
  have HY2:=Lib.hid (show ∀ V,(Instr.sliceAt 61 kv (some (.int .i64 ((q:Int)+1))) none none).run Tryz.prog V = .ok y2 V from hy2)
  have q1:IntKind.i64.wrap ((q:Int)+1)=(q:Int)+1:=IntWalk.i64_in _ (by omega)
  clear hs1 hs2 hy1 hy2
  go_wp2_with fail
  refine Late.region_goes (fun V=>But (fun _=>False) w1 V) (fun j=>j == 19) (by kernel_rfl) ?_ (fun hH=>?_)
  ·exact (But.refl _ w1).drew
  refine Late.tk 0 ?_ ?_ hH ?_ (hw:=by kernel_rfl);rotate_left;focus (intro wy hSw;(try dsimp only at hSw);have k0:=HC7.out wy hSw;go_simp;try (with_reducible rfl))
  refine Late.tk 2 ?_ ?_ hH ?_ (hw:=by kernel_rfl);rotate_left;focus (intro wy hSw;(try dsimp only at hSw);have k0:=HC7.out wy hSw;go_simp;try (with_reducible rfl))
  refine Late.tk 3 ?_ ?_ hH ?_ (hw:=by kernel_rfl);rotate_left;focus (intro wy hSw;(try dsimp only at hSw);have k0:=HC7.out wy hSw;go_simp;try (with_reducible rfl))
  refine Late.tk 4 ?_ ?_ hH ?_ (hw:=by kernel_rfl);rotate_left;focus (intro wy hSw;(try dsimp only at hSw);have k0:=HC7.out wy hSw;go_simp;try (with_reducible rfl))
  refine Late.tk 5 ?_ ?_ hH ?_ (hw:=by kernel_rfl);rotate_left;focus (intro wy hSw;(try dsimp only at hSw);have k0:=HC7.out wy hSw;go_simp;try (with_reducible rfl))
  refine Late.tk 6 ?_ ?_ hH ?_ (hw:=by kernel_rfl);rotate_left;focus (intro wy hSw;(try dsimp only at hSw);have k0:=HC7.out wy hSw;go_simp;try (with_reducible rfl))
  try simp only [Act.put,List.setIfInBounds_toArray,List.set_cons_zero,List.set_cons_succ]
  refine Late.Goes.takeT (i:=7) (v:=_) (by simp only [List.getElem?_toArray,List.getElem?_cons_succ,List.getElem?_cons_zero];rfl) (by kernel_rfl) (by kernel_rfl) (by kernel_rfl) (by kernel_rfl) (by kernel_rfl) (by exact fun _ _ _ h=>h) (yields_slice (by rfl) 61 _ _ _ rfl kv y1 none (some (.int .i64 (q:Int))) rfl rfl rfl (fun V=>HY1.out V)) hH ?_
  try simp only [Act.put,List.setIfInBounds_toArray,List.set_cons_zero,List.set_cons_succ]
  refine Late.tk 9 ?_ ?_ hH ?_ (hw:=by kernel_rfl);rotate_left;focus (intro wy hSw;(try dsimp only at hSw);have k0:=HC7.out wy hSw;go_simp;try (with_reducible rfl))
  refine Late.tk 10 ?_ ?_ hH ?_ (hw:=by kernel_rfl);rotate_left;focus (intro wy hSw;(try dsimp only at hSw);have k0:=HC7.out wy hSw;go_simp;try (with_reducible rfl))
  refine Late.tk 11 ?_ ?_ hH ?_ (hw:=by kernel_rfl);rotate_left;focus (intro wy hSw;(try dsimp only at hSw);have k0:=HC7.out wy hSw;go_simp;try (with_reducible rfl))
  refine Late.tk 12 ?_ ?_ hH ?_ (hw:=by kernel_rfl);rotate_left;focus (intro wy hSw;(try dsimp only at hSw);have k0:=HC7.out wy hSw;go_simp;try (with_reducible rfl))
  refine Late.tk 13 ?_ ?_ hH ?_ (hw:=by kernel_rfl);rotate_left;focus (intro wy hSw;(try dsimp only at hSw);have k0:=HC7.out wy hSw;go_simp;try (with_reducible rfl))
  refine Late.tk 14 ?_ ?_ hH ?_ (hw:=by kernel_rfl);rotate_left;focus (intro wy hSw;(try dsimp only at hSw);have k0:=HC7.out wy hSw;go_simp;try (with_reducible rfl))
  try simp only [Act.put,List.setIfInBounds_toArray,List.set_cons_zero,List.set_cons_succ]
  refine Late.Goes.takeT (i:=15) (v:=_) (by simp only [List.getElem?_toArray,List.getElem?_cons_succ,List.getElem?_cons_zero];rfl) (by kernel_rfl) (by kernel_rfl) (by kernel_rfl) (by kernel_rfl) (by kernel_rfl) (by exact fun _ _ _ h=>h) (yields_slice (by rfl) 61 _ _ _ rfl kv y2 (some (.int .i64 ((q:Int)+1))) none rfl rfl rfl (fun V=>HY2.out V)) hH ?_
  try simp only [Act.put,List.setIfInBounds_toArray,List.set_cons_zero,List.set_cons_succ]
  clear q1
  have HV0:=Lib.hid hH
  refine Late.Goes.one (i:=1) (by kernel_rfl) (by simp only [List.getElem?_toArray,List.getElem?_cons_succ,List.getElem?_cons_zero];rfl) (fun K hK=>?_)
  clear hH
  go_simp
  have HO2:=Lib.hid (show (w1.drew.alloc (.cells #[] 72)).ownsRow w1.heap.size 72 7 (.slice (some ⟨w1.heap.size,0,none⟩) 0 0) 0 [] from own_new w1.drew 72 7 (by omega))
  have HB2:=Lib.hid (HV0.out.alloc (.cells #[] 72))
  change K (_:Act) (w1.drew.alloc (.cells #[] 72))
  generalize w1.drew.alloc (.cells #[] 72)=w2a at HO2 HB2 ⊢
  obtain ⟨z0,hz0e⟩:∃ z,z=w1.heap.size:=⟨_,rfl⟩
  rw [← hz0e] at HO2 ⊢
  have HWS:=Lib.hid hz0e
  clear hz0e
  refine hK.out _ _ ?_ (fun hH=>?_)
  ·exact fun _=>HB2.out
  clear hK K
  have hH:=hH rfl
  try simp only [Act.put,List.setIfInBounds_toArray,List.set_cons_zero,List.set_cons_succ]
  refine Late.Goes.one (i:=8) (by kernel_rfl) (by simp only [List.getElem?_toArray,List.getElem?_cons_succ,List.getElem?_cons_zero];rfl) (fun K hK=>?_)
  clear hH
  refine step_append_onto rfl (.tmp 14) (.tmp 20) _ rfl z0 72 i0 _ 7 72 Tryz.underlying61 hi0 hz0 hz1 hz2 rfl (by omega) (.slice (some ⟨z0,0,none⟩) 0 0) 0 [] rfl HO2.out y1 q _ rfl (HS1.out _ HB2.out) (fun u hu=>kcl_one _ u (List.mem_of_mem_take hu)) (by simp only [maxLen];omega) (by omega) (by have:=HB2.out.size;have:=HWS.out;omega) ?_
  intro v3 w3a ho3 hon3
  rw [List.nil_append,Nat.zero_add] at ho3
  have HO3:=Lib.hid ho3
  have HB3:=Lib.hid (HB2.out.trans hon3.but (fun i hi e=>by
   have e2:i=z0:=Option.some.inj e
   have:=HWS.out
   omega))
  clear ho3 hon3
  refine hK.out _ _ ?_ (fun hH=>?_)
  ·exact fun _=>HB3.out
  clear hK K
  have hH:=hH rfl
  try simp only [Act.put,List.setIfInBounds_toArray,List.set_cons_zero,List.set_cons_succ]
  refine Late.Goes.one (i:=16) (by kernel_rfl) (by simp only [List.getElem?_toArray,List.getElem?_cons_succ,List.getElem?_cons_zero];rfl) (fun K hK=>?_)
  clear hH
  refine step_append_onto rfl (.tmp 21) (.tmp 28) _ rfl z0 72 i0 _ 7 72 Tryz.underlying61 hi0 hz0 hz1 hz2 rfl (by omega) v3 q _ rfl HO3.out y2 (N - (q+1)) _ rfl (HS2.out _ HB3.out) (fun u hu=>kcl_one _ u (List.mem_of_mem_drop hu)) (by simp only [maxLen];omega) (by omega) (by have:=HB3.out.size;have:=HWS.out;omega) ?_
  intro v4 w4a ho4 hon4
  obtain ⟨L4,hL4⟩:∃ L,L=q+(N - (q+1)):=⟨_,rfl⟩
  rw [← hL4] at ho4
  have HL4:=Lib.hid hL4
  clear hL4
  obtain ⟨a4,c4,rfl,_⟩:=own_form ho4
  have HO4:=Lib.hid ho4
  have HB4:=Lib.hid (HB3.out.trans hon4.but (fun i hi e=>by
   have:=(HO3.out.lt i e.symm).1
   have:=HWS.out
   omega))
  clear ho4 hon4
  refine hK.out _ _ ?_ (fun hH=>?_)
  ·exact fun _=>HB4.out
  clear hK K
  have hH:=hH rfl
  try simp only [Act.put,List.setIfInBounds_toArray,List.set_cons_zero,List.set_cons_succ]
  refine Late.tk 17 ?_ ?_ hH ?_ (hw:=by kernel_rfl);rotate_left;focus (intro wy hSw;(try dsimp only at hSw);have k0:=HC7.out wy hSw;go_simp;try (with_reducible rfl))
  refine Late.tk 18 ?_ ?_ hH ?_ (hw:=by kernel_rfl);rotate_left;focus (intro wy hSw;(try dsimp only at hSw);have k0:=HC7.out wy hSw;go_simp;try (with_reducible rfl))
  try simp only [Act.put,List.setIfInBounds_toArray,List.set_cons_zero,List.set_cons_succ]
  have k9:=HC7.out _ HB4.out
  have f9:=HF7.out _ HB4.out
  refine Late.Goes.one (i:=19) (by kernel_rfl) (by simp only [List.getElem?_toArray,List.getElem?_cons_succ,List.getElem?_cons_zero];rfl) (fun K hK=>?_)
  clear hH
  go_simp
  clear k9 f9
  have hrw:w4a.ownsRow z0 72 7 (.slice a4 L4 c4) (Ks.take q++Ks.drop (q+1)).length (kcl (Ks.take q++Ks.drop (q+1))):=by
   have h1:=HO4.out
   rw [show (kcl Ks).take (q * 7)=kcl (Ks.take q) from flat_take kcs_length Ks q,show (kcl Ks).drop ((q+1) * 7)=kcl (Ks.drop (q+1)) from flat_drop kcs_length Ks (q+1),← kcl_append] at h1
   rw [show (Ks.take q++Ks.drop (q+1)).length=L4 from by rw [List.length_append,List.length_take,List.length_drop,← HNN.out,HL4.out];omega]
   exact h1
  have HE:=Lib.hid ((HR1.out.new HB4.out).setk hrw)
  clear hrw
  generalize w4a.setCell ⟨rp,7,none⟩ (.slice a4 L4 c4)=w5a at HE ⊢
  refine hK.out _ _ ?_ (fun _=>?_)
  ·exact fun h=>by cases h
  clear hK K
  try simp only [Act.put,List.setIfInBounds_toArray,List.set_cons_zero,List.set_cons_succ]
  refine Late.Goes.done (by kernel_rfl) ?_ _
  go_wp2_with fail
  go_end0
  exact ⟨rfl,⟨_,by rw [HKD.out];exact HE.out.1⟩,((HB1.out.trans HB4.out (fun _ _ h=>h)).mono (fun _ _ h=>h.elim)).trans' HE.out.2⟩
theorem sees_one {f:List Value} (w:World) (t:TypeId) (fr:Nat × Nat) (g k:Nat) (hg:g=w.heap.size) (hk:f.length=k):Sees (w.alloc (.cells f.toArray t fr)) k (.slice (some ⟨g,0,none⟩) 1 1) 1 f:=by
 subst hg
 refine .inr ⟨_,_,rfl,by omega,fun j u hu=>?_⟩
 refine ⟨by simp,?_⟩
 rw [add_none,Nat.zero_add,World.cell?_alloc_mark]
 simpa using hu
theorem rput_any (h:RM w rp kv tv B Ks) (hl:Ks.length≤900) (x:RK):Calls Tryz.prog 36 #[.pointer (some ⟨rp,0,none⟩),.agg (kcs x).toArray] w fun e w'=>e = .returned (.tuple #[])∧(∃ kv',RM w' rp kv' tv B (kput x Ks))∧But (fun k=>k=rp) w w':=by
 have HX:=Lib.hid (Blk.new w 72 (kcs x).toArray)
 have HB0:=Lib.hid ((But.refl (fun _=>False) w).alloc (.cells (kcs x).toArray 72))
 have HH:=Lib.hid h
 have hlt:=h.lt
 have hkd:=(kdrop_sub x.key Ks).length_le
 have HKP:=Lib.hid (show kput x Ks=(kdrop x.key Ks).take (fpl x.key (kdrop x.key Ks))++x :: (kdrop x.key Ks).drop (fpl x.key (kdrop x.key Ks)) from rfl)
 obtain ⟨i0,hi0,hz⟩:=Option.map_eq_some_iff.1 kzero
 simp only [Prod.mk.injEq] at hz
 obtain ⟨hz0,hz1,hz2⟩:=hz
 clear h
 change Calls _ _ #[.pointer (some ⟨rp,0,none⟩),.agg #[.string x.key,.string x.val,.int .u64 (x.ver:Int),.int .u64 (x.exp:Int),.int .i64 x.p.1,.int .i64 x.p.2.1,.int .i64 x.p.2.2]] w _
 have e0:(w.alloc (.cells #[.string x.key,.string x.val,.int .u64 (x.ver:Int),.int .u64 (x.exp:Int),.int .i64 x.p.1,.int .i64 x.p.2.1,.int .i64 x.p.2.2] 72)).cell? ⟨w.heap.size,0,none⟩=some (.string x.key):=HX.out.cell 0
 go_enter Tryz.func36,Tryz.ntmps36
 go_wp2_with fail
 obtain ⟨b3,hb3⟩:∃ b,b=w.heap.size:=⟨_,rfl⟩
 change Calls _ _ _ (w.alloc (.cells (kcs x).toArray 72)) _
 rw [← hb3] at HX ⊢
 clear e0
 generalize w.alloc (.cells (kcs x).toArray 72)=W at HX HB0 ⊢
 have hbr:b3≠rp:=by omega
 clear hb3
 refine (rdrop_any (HH.out.new HB0.out) (by omega) x.key).mono ?_
 rintro e w1 ⟨rfl,⟨kv1,hr1⟩,hb1⟩
 have HX1:=Lib.hid (HX.out.but hb1 hbr)
 have HB1:=Lib.hid ((HB0.out.mono (fun _ _ h=>h.elim)).trans' hb1)
 have HR1:=Lib.hid hr1
 clear hb1 hr1
 obtain ⟨Kd,hKd⟩:∃ k,k=kdrop x.key Ks:=⟨_,rfl⟩
 rw [← hKd] at HR1 HKP hkd
 clear hKd
 have HFI:=Lib.hid (find_any HR1.out (by omega) x.key)
 have hq:=fpl_le x.key Kd
 obtain ⟨q,hqe⟩:∃ q,q=fpl x.key Kd:=⟨_,rfl⟩
 rw [← hqe] at HFI hq HKP
 obtain ⟨b,hbe⟩:∃ b,b=fhas x.key Kd:=⟨_,rfl⟩
 rw [← hbe] at HFI
 clear hqe hbe
 have e0:w1.cell? ⟨b3,0,none⟩=some (.string x.key):=HX1.out.cell 0
 go_wp2_with fail
 refine HFI.out.mono ?_
 rintro e w2 ⟨rfl,hb2⟩
 have HR2:=Lib.hid (HR1.out.new hb2)
 have HX2:=Lib.hid (HX1.out.but hb2 (fun h=>h))
 have HB2:=Lib.hid (HB1.out.trans hb2 (fun _ _ h=>h.elim))
 clear hb2 e0
 obtain ⟨N,hN⟩:∃ N,N=Kd.length:=⟨_,rfl⟩
 have HNN:=Lib.hid hN
 have hrow:=HR2.out.keys
 rw [← hN] at hrow hq hkd
 clear hN
 have HC7:=Lib.hid (fun V (hV:But (fun _=>False) w2 V)=>show V.cell? ⟨rp,7,none⟩=some kv1 from (HR2.out.new hV).blk.cell 7)
 have HF7:=Lib.hid (fun V (hV:But (fun _=>False) w2 V)=>show V.frozen? ⟨rp,7,none⟩=false from (HR2.out.new hV).blk.frozen 7)
 obtain ⟨y1,hy1,hs1⟩:=own_head hrow Tryz.underlying61 size_key (i:=q) (by omega)
 obtain ⟨y2,hy2,hs2⟩:=own_tail hrow Tryz.underlying61 size_key (i:=q) (by omega)
 have HS1:=Lib.hid hs1
 have HS2:=Lib.hid hs2
 have HY1:=Lib.hid hy1
 have HY2:=Lib.hid hy2
 have HO2:=Lib.hid (own_new w2 72 7 (by omega))
 have k7:(w2.alloc (.cells #[] 72)).cell? ⟨rp,7,none⟩=some kv1:=HC7.out _ ((But.refl _ w2).alloc _)
 clear hs1 hs2 hy1 hy2 hrow
 go_wp2_with (first
  | (refine wpList_slice rfl 61 (.tmp 22) none (some (.tmp 23)) rfl kv1 y1 none (some (.int .i64 (q:Int))) rfl rfl rfl (HY1.out _) ?_)
  | (at_builtin;refine wpList_append_onto rfl (.tmp 18) (.tmp 24) _ rfl w2.heap.size 72 i0 _ 7 72 Tryz.underlying61 hi0 hz0 hz1 hz2 rfl (by omega) (.slice (some ⟨w2.heap.size,0,none⟩) 0 0) 0 [] rfl HO2.out y1 q _ rfl (HS1.out _ ((But.refl _ w2).alloc _)) (fun u hu=>kcl_one _ u (List.mem_of_mem_take hu)) (by simp only [maxLen];omega) (by omega) (by simp) ?_
     intro v3 w3 ho3 hon3
     rw [List.nil_append,Nat.zero_add] at ho3
     have hb3:But (fun _=>False) w2 w3:=((But.refl (fun _=>False) w2).alloc (.cells #[] 72)).trans hon3.but (fun i hi e=>by
      have e2:i=w2.heap.size:=Option.some.inj e
      omega)
     have hx3:=HX2.out.but hb3 (fun h=>h)
     have e0:w3.cell? ⟨b3,0,none⟩=some (.string x.key):=hx3.cell 0
     have e1:w3.cell? ⟨b3,1,none⟩=some (.string x.val):=hx3.cell 1
     have e2:w3.cell? ⟨b3,2,none⟩=some (.int .u64 (x.ver:Int)):=hx3.cell 2
     have e3:w3.cell? ⟨b3,3,none⟩=some (.int .u64 (x.exp:Int)):=hx3.cell 3
     have e4:w3.cell? ⟨b3,4,none⟩=some (.int .i64 x.p.1):=hx3.cell 4
     have e5:w3.cell? ⟨b3,5,none⟩=some (.int .i64 x.p.2.1):=hx3.cell 5
     have e6:w3.cell? ⟨b3,6,none⟩=some (.int .i64 x.p.2.2):=hx3.cell 6
     have HO3:=Lib.hid ho3
     have HB3:=Lib.hid hb3
     clear ho3 hon3 hb3 hx3 k7)
  | (at_builtin;refine wpList_append_onto rfl (.tmp 26) (.tmp 28) _ rfl w2.heap.size 72 i0 _ 7 72 Tryz.underlying61 hi0 hz0 hz1 hz2 rfl (by omega) v3 q _ rfl (ownsRow_but HO3.out ((But.refl (fun _=>False) w3).alloc (.cells (kcs x).toArray 72)) (fun _ _ h=>h)) (.slice (some ⟨w3.heap.size,0,none⟩) 1 1) 1 (kcs x) rfl (sees_one w3 _ _ _ 7 rfl rfl) (kcs_one x) (by simp only [maxLen];omega) (by omega) (by have:=HB3.out.size;simp;omega) ?_
     intro v4 w4 ho4 hon4
     have hb4:But (fun _=>False) w2 w4:=(HB3.out.alloc (.cells (kcs x).toArray 72)).trans hon4.but (fun i hi e=>by have:=(HO3.out.lt i e.symm).1;omega)
     have k7:=HC7.out _ hb4
     have HO4:=Lib.hid ho4
     have HB4:=Lib.hid hb4
     clear ho4 hon4 hb4 e0 e1 e2 e3 e4 e5 e6)
  | (refine wpList_slice rfl 61 (.tmp 35) (some (.tmp 36)) none rfl kv1 y2 (some (.int .i64 (q:Int))) none rfl rfl rfl (HY2.out _) ?_)
  | (at_builtin;refine wpList_append_onto rfl (.tmp 31) (.tmp 37) _ rfl w2.heap.size 72 i0 _ 7 72 Tryz.underlying61 hi0 hz0 hz1 hz2 rfl (by omega) v4 (q+1) _ rfl HO4.out y2 (N - q) _ rfl (HS2.out _ HB4.out) (fun u hu=>kcl_one _ u (List.mem_of_mem_drop hu)) (by simp only [maxLen];omega) (by omega) (by have:=HB4.out.size;omega) ?_
     intro v5 w5 ho5 hon5
     obtain ⟨L5,hL5⟩:∃ L,L=q+1+(N - q):=⟨_,rfl⟩
     rw [← hL5] at ho5
     have HL5:=Lib.hid hL5
     clear hL5
     obtain ⟨a5,c5,rfl,_⟩:=own_form ho5
     have hb5:But (fun _=>False) w2 w5:=HB4.out.trans hon5.but (fun i hi e=>by have:=(HO4.out.lt i e.symm).1;omega)
     have k7:=HC7.out _ hb5
     have f7:=HF7.out _ hb5
     have HO5:=Lib.hid ho5
     have HB5:=Lib.hid hb5
     clear ho5 hon5 hb5))
 clear k7 f7
 have hrw:w5.ownsRow w2.heap.size 72 7 (.slice a5 L5 c5) (Kd.take q++x :: Kd.drop q).length (kcl (Kd.take q++x :: Kd.drop q)):=by
  have h1:=HO5.out
  rw [show (kcl Kd).take (q * 7)=kcl (Kd.take q) from flat_take kcs_length Kd q,show (kcl Kd).drop (q * 7)=kcl (Kd.drop q) from flat_drop kcs_length Kd q,show kcl (Kd.take q)++kcs x++kcl (Kd.drop q)=kcl (Kd.take q++x :: Kd.drop q) from by simp [kcl]] at h1
  rw [show (Kd.take q++x :: Kd.drop q).length=L5 from by rw [List.length_append,List.length_take,List.length_cons,List.length_drop,← HNN.out,HL5.out];omega]
  exact h1
 have HE:=Lib.hid ((HR2.out.new HB5.out).setk hrw)
 go_end0
 exact ⟨rfl,⟨_,by rw [HKP.out];exact HE.out.1⟩,(HB2.out.trans HB5.out (fun _ _ h=>h.elim)).trans' HE.out.2⟩
end
end Go.Proofs.YtgjofinbdigmcaaGreat.Buk

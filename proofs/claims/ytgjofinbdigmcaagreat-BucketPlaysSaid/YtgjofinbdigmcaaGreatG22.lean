/- Contract of the bucket's dropStale. -/
import Derived.Test.YtgjofinbdigmcaaGreatG20
import Derived.Test.YtgjofinbdigmcaaGreatG21
set_option linter.unusedSimpArgs false
set_option linter.unusedVariables false
set_option maxHeartbeats 2000000
set_option maxRecDepth 100000
namespace Go.Proofs.YtgjofinbdigmcaaGreat.Buk
open Go.Proofs.YtgjofinbdigmcaaGreat.Mem
open Go.ChangeShapes Go.WideShapes Go.ChangeAt Go.RowKit
theorem irow_of_own {w:World} {base n:Nat} {x:Value} {l:List It} (h:w.ownsRow base 68 2 x n (Exp.rowI l)) (h0:0 < n):∃ g cap rest,x = .slice (some ⟨g,0,none⟩) n cap∧n=l.length∧n≤cap∧base≤g∧g < w.heap.size∧Exp.IRow w 68 g l rest:=by
 have hn:n=l.length:=by have:=h.1;rw [Exp.rowI_length] at this;omega
 rcases h.2 with ⟨_,h2⟩|⟨g,cap,cur,h1,h2,h3,h4,h5,h6,h7⟩
 ·omega
 ·have hb:Exp.IRow w 68 g l (cur.toList.drop (n * 2)):=⟨by
   show w.heap[g]?=_
   rw [← h7,List.take_append_drop,Array.toArray_toList]
   exact h3⟩
  exact ⟨g,cap,_,h1,hn,h4,h2,hb.blk.lt,hb⟩
section
variable {w w':World} {s:Bl} {B:Bk} {T:Tab} {m:List It} {i:Nat}
theorem BM.step_ends (h:BM w s B T m i) {q eb:Nat} (hm:Exp.HM w eb q (.slice none 0 0) []) (hq:∀ k,Foot s k→k≠q):BM (w.setCell ⟨s.p,8,none⟩ (.pointer (some ⟨q,0,none⟩))) { s with hp:=q,hv := .slice none 0 0,eb:=eb } B T [] i∧But (Foot s) w (w.setCell ⟨s.p,8,none⟩ (.pointer (some ⟨q,0,none⟩))):=by
 obtain ⟨⟨a1,a2,a3,a4,a5,a6,a7,a8,a9,a10,a11,a12,a13,a14,a15⟩,ar⟩:=h.apart
 have hb:But (fun k=>k=s.p) w (w.setCell ⟨s.p,8,none⟩ (.pointer (some ⟨q,0,none⟩))):=(But.refl (fun k=>k=s.p) w).setCell (p:=⟨s.p,8,none⟩) rfl _
 exact ⟨⟨h.blk.set_ 8 _,h.key.but hb (by omega) (by omega),hm.but hb (fun e=>hq s.p (.inl rfl) e.symm) (fun k e=>by cases e),h.tok.but hb (by omega) (by omega)⟩,hb.mono (fun k _ e => .inl e)⟩
structure Lay (w:World) (s:Bl) (B:Bk) (T:Tab) (i g:Nat) (C:List It) (rest:List Value) (k:Nat) (s':Bl) (m':List It) (wr:World):Prop where
 bm:BM wr s' B T m' i
 row:Exp.IRow wr 68 g C rest
 step:Step w s s' wr
 own:∀ j,s'.hv.ownBlock=some j→j≠g
 few:m'.length≤k
 sub:∀ x ∈ m',x ∈ C
 all:∀ x ∈ C.take k,isOf T x=true→x ∈ m'
theorem Lay.foot {g k:Nat} {C m':List It} {rest:List Value} {s':Bl} {wr:World} (h:Lay w s B T i g C rest k s' m' wr):¬ Foot s' g:=by
 have hb:=h.row.blk
 rintro (e|e|e|e|e|e|e)
 ·exact hb.ne_ h.bm.blk (by decide) e
 ·exact hb.ne_ h.bm.key.blk (by decide) e
 ·exact hb.ne_ h.bm.key.row (by decide) e
 ·obtain ⟨l,hA,_⟩:=h.bm.heap
  exact hb.ne_ hA.blk (by decide) e
 ·exact h.own g e rfl
 ·exact hb.ne_ h.bm.tok.blk (by decide) e
 ·exact h.bm.tok.ne hb e.symm
theorem Lay.new {g k:Nat} {C m':List It} {rest:List Value} {s':Bl} {wr w2:World} (h:Lay w s B T i g C rest k s' m' wr) (hb:But (fun _=>False) wr w2):Lay w s B T i g C rest k s' m' w2 :=
 ⟨h.bm.new hb,h.row.but hb (fun h=>h),h.step.trans (Step.of_new hb),h.own,h.few,h.sub,h.all⟩
theorem Lay.skip {g k:Nat} {C m':List It} {rest:List Value} {s':Bl} {wr:World} (h:Lay w s B T i g C rest k s' m' wr) (hk:k < C.length) (hx:isOf T (Exp.look C k)=false):Lay w s B T i g C rest (k+1) s' m' wr :=
 ⟨h.bm,h.row,h.step,h.own,by have:=h.few;omega,h.sub,fun x hx' ht=>by
  rw [take_look hk] at hx'
  rcases List.mem_append.1 hx' with h1|h1
  ·exact h.all x h1 ht
  ·rw [List.mem_singleton.1 h1,hx] at ht;cases ht⟩
theorem Lay.push {g k:Nat} {C m':List It} {rest:List Value} {s':Bl} {wr w2:World} {v':Value} (h:Lay w s B T i g C rest k s' m' wr) (hk:k < C.length) (hm:Exp.HM w2 s'.eb s'.hp v' (Exp.ins m' (Exp.look C k))) (hb:But (Exp.Foot s'.hp s'.hv) wr w2) (hn:Exp.Next wr s'.hv v'):Lay w s B T i g C rest (k+1) { s' with hv:=v' } (Exp.ins m' (Exp.look C k)) w2:=by
 have hp:=Exp.ins_perm m' (Exp.look C k)
 have hst:=h.bm.step_heap hm hb hn
 refine ⟨hst.1,h.row.but hb (fun e=>?_),h.step.trans hst.2,fun j e=>?_,by rw [hp.length_eq];have:=h.few;simp;omega,fun x hx=>?_,fun x hx ht=>?_⟩
 ·rcases e with e|e
  ·exact h.foot (.inr (.inr (.inr (.inl e))))
  ·exact h.own g e.symm rfl
 ·rcases hn with hn|hn
  ·exact h.own j (hn.symm.trans e)
  ·have:=hn j e
   have:=h.row.blk.lt
   omega
 ·rcases List.mem_cons.1 (hp.subset hx) with h1|h1
  ·rw [h1];exact look_in hk
  ·exact h.sub x h1
 ·rw [take_look hk] at hx
  rcases List.mem_append.1 hx with h1|h1
  ·exact hp.symm.subset (List.mem_cons_of_mem _ (h.all x h1 ht))
  ·rw [List.mem_singleton.1 h1];exact hp.symm.subset (List.mem_cons_self ..)
theorem Lay.done {g k:Nat} {C m':List It} {rest:List Value} {s':Bl} {wr:World} (h:Lay w s B T i g C rest k s' m' wr) (hk:C.length≤k) (hg:Key.Good T i) (o:Ok B T m i) (hc:C.length≤m.length) (hm:∀ x,x ∈ C ↔ x ∈ m) (hk2:k≤C.length):Made w s B T i wr :=
 ⟨s',m',h.bm,⟨o.bytes,o.cov.less hg (fun x hx ht=>h.all x (by rw [List.take_of_length_le hk];exact (hm x).2 hx) ht),by have:=h.few;have:=o.few;omega,fun x hx=>o.okm x ((hm x).1 (h.sub x hx)),o.okt,o.id,o.gen,o.seq,o.serial,o.charged⟩,h.step⟩
theorem stale_any (h:BM w s B T m i) (o:Ok B T m i):Calls Tryz.prog 27 #[.pointer (some ⟨s.p,0,none⟩)] w fun e w'=>e = .returned (.tuple #[])∧Made w s B T i w':=by
 have hD:=fun j=>show But (fun _=>False) w (w.drewN j) from (But.refl _ w).drewN j
 have k7:=fun j=>show (w.drewN j).cell? ⟨s.p,7,none⟩=some (.pointer (some ⟨s.kp,0,none⟩)) from (h.new (hD j)).cell 7
 have k8:=fun j=>show (w.drewN j).cell? ⟨s.p,8,none⟩=some (.pointer (some ⟨s.hp,0,none⟩)) from (h.new (hD j)).cell 8
 have HL1:=Lib.hid (fun j=>Exp.hlen_any (h.new (hD j)).heap)
 have HL2:=Lib.hid (fun j=>(Key.klen_any (h.new (hD j)).key).mono (fun e w' hh=>And.intro hh.1 hh.2.symm))
 have hc1:Key.cnt T≤400:=by have:=h.key.good.few;have:=h.key.few;omega
 have hm1:m.length≤400:=by have:=o.few;have:=h.key.few;omega
 have HH:=Lib.hid h
 have HO:=Lib.hid o
 obtain ⟨c,hc⟩:∃ c,c=Key.cnt T:=⟨_,rfl⟩
 obtain ⟨n,hn⟩:∃ n,n=m.length:=⟨_,rfl⟩
 rw [← hc] at hc1 HL2
 rw [← hn] at hm1 HL1
 have HN:=Lib.hid hn
 clear h o hc hn hD
 have ww:IntKind.i64.wrap (2 * (c:Int))=2 * (c:Int):=IntWalk.i64_in _ (by omega)
 go_enter Tryz.func27,Tryz.ntmps27
 go_wp2_with fail
 go_quiet (first|(go_at_call 55;exact Calls.quiet_of_same (HL1.out _))|(go_at_call 51;exact Calls.quiet_of_same (HL2.out _)))
 have hDN:=(But.refl (fun _=>False) w).drewN nq
 have HM1:=Lib.hid (HH.out.new hDN)
 have HS1:=Lib.hid (Step.of_new (s:=s) hDN)
 clear hDN k7 k8
 generalize w.drewN nq=w1 at HM1 HS1 ⊢
 by_cases hs:n≤2 * c
 ·have hsi:(n:Int)≤2 * (c:Int):=by omega
  go_wp2_with fail
  (try simp only [Exit.inBlock,Exit.then]);refine bodyPost_ret (results_none rfl _ _ _) rfl ?_
  exact ⟨rfl,s,m,HM1.out,HO.out,HS1.out⟩
 ·have hsi:¬ (n:Int)≤2 * (c:Int):=by omega
  have k8:w1.cell? ⟨s.p,8,none⟩=some (.pointer (some ⟨s.hp,0,none⟩)):=HM1.out.cell 8
  have HDU:=Lib.hid (Exp.hdue_any HM1.out.heap 18446744073709551615)
  go_wp2_with fail
  refine HDU.out.mono ?_
  rintro e w2 ⟨j,x,v',rfl,hdue,hj⟩
  have hjn:j=n:=by
   have h1:=hdue.le
   rw [← HN.out] at h1 hj
   rcases Nat.lt_or_ge j n with h2|h2
   ·have h3:=hj h2
    have h4:=(HO.out.okm _ (look_in (by rw [← HN.out];exact h2))).1.2
    omega
   ·omega
  subst hjn
  have hrow:=hdue.row
  rw [HN.out,List.take_of_length_le (Nat.le_refl _),← HN.out] at hrow
  obtain ⟨g,cap,rest,rfl,hgl,hgc,hgb,hglt,hR⟩:=irow_of_own hrow (by omega)
  have hhp:=hdue.heap
  rw [HN.out,List.drop_length] at hhp
  have hst2:=HM1.out.step_heap hhp hdue.but (.inl hdue.own)
  have HM2:=Lib.hid hst2
  have HR2:=Lib.hid (And.intro hR (And.intro hgb hgc))
  clear hdue hj hrow hR hhp hst2 HDU k8 hgb hglt
  go_wp2_with fail
  refine (Exp.hnew_any w2).mono ?_
  rintro e w3 ⟨rfl,hm3,hb3⟩
  have h3:=HM2.out.1.new hb3
  have hlt2:=HM2.out.1.lt
  have hen:=h3.step_ends hm3 (fun k hk e=>by have:=hlt2 k hk;omega)
  have k9:w3.cell? ⟨s.p,8,none⟩=some (.pointer (some ⟨s.hp,0,none⟩)):=h3.cell 8
  have f9:w3.frozen? ⟨s.p,8,none⟩=false:=h3.blk.frozen 8
  obtain ⟨q,hq⟩:∃ q,q=w2.heap.size:=⟨_,rfl⟩
  rw [← hq] at hen
  have HM3:=Lib.hid hen
  have HR3:=Lib.hid (show Exp.IRow (w3.setCell ⟨s.p,8,none⟩ (.pointer (some ⟨q,0,none⟩))) 68 g m rest∧g < q from by
   have hr:=HR2.out.1.but hb3 (fun h=>h)
   refine ⟨hr.but ((But.refl (fun k=>k=s.p) w3).setCell (p:=⟨s.p,8,none⟩) rfl _) (fun e=>hr.blk.ne_ h3.blk (by decide) e),?_⟩
   rw [hq]
   exact HR2.out.1.blk.lt)
  have HST3:=Lib.hid (show Step w1 s { s with hp:=q,hv := .slice none 0 0,eb:=q } (w3.setCell ⟨s.p,8,none⟩ (.pointer (some ⟨q,0,none⟩))) from by
   refine HM2.out.2.trans ⟨(hb3.mono (fun _ _ h=>h.elim)).trans' hen.2,fun k hk=>?_,rfl⟩
   rcases hk with e|e|e|e|e|e
   ·exact .inl (.inl e)
   ·exact .inl (.inr (.inl e))
   ·exact .inl (.inr (.inr (.inl e)))
   ·have e:k=q:=e
    exact .inr (by omega)
   ·cases e
   ·exact .inl (.inr (.inr (.inr (.inr (.inr e))))))
  obtain ⟨s2,hs2⟩:∃ s2:Bl,s2={ s with hp:=q,hv := .slice none 0 0,eb:=q }:=⟨_,rfl⟩
  rw [← hs2] at HM3 HST3
  have HV2:=Lib.hid (show s2.hv = .slice none 0 0∧s2.p=s.p by rw [hs2];exact ⟨rfl,rfl⟩)
  clear h3 hlt2 hen hm3 hb3 hs2
  have HWE:=Lib.hid (show q=w2.heap.size from hq)
  clear hq
  go_wp2_with (rw [← HWE.out])
  generalize w3.setCell ⟨s.p,8,none⟩ (.pointer (some ⟨q,0,none⟩))=w4 at HM3 HR3 HST3 ⊢
  have HCP:=Lib.hid (compact_any HR3.out.1 (by rw [← HN.out];omega) cap (by rw [← HN.out];exact HR2.out.2.2))
  refine HCP.out.mono ?_
  rintro e w5 ⟨C,rest2,rfl,hcl,hcm,hr5,hb5⟩
  have hng:¬ Foot s2 g:=by
   have hb:=HR3.out.1.blk
   rintro (e|e|e|e|e|e|e)
   ·exact hb.ne_ HM3.out.1.blk (by decide) e
   ·exact hb.ne_ HM3.out.1.key.blk (by decide) e
   ·exact hb.ne_ HM3.out.1.key.row (by decide) e
   ·obtain ⟨l,hA,_⟩:=HM3.out.1.heap
    exact hb.ne_ hA.blk (by decide) e
   ·rw [HV2.out.1] at e;cases e
   ·exact hb.ne_ HM3.out.1.tok.blk (by decide) e
   ·exact HM3.out.1.tok.ne hb e.symm
  have hM5:=HM3.out.1.but hb5 (fun k hk e=>hng (e ▸ hk))
  have HLY:=Lib.hid (show Lay w1 s B T i g C rest2 0 s2 [] w5 from ⟨hM5,hr5,⟨HST3.out.but.trans hb5 (fun j hj e=>by have:=HR2.out.2.1;omega),HST3.out.new,HV2.out.2⟩,(fun j e=>by rw [HV2.out.1] at e;cases e),Nat.le_refl _,(fun x hx=>absurd hx List.not_mem_nil),(fun x hx=>absurd hx (by simp))⟩)
  have HDN:=Lib.hid (fun k s' m' wr (hh:Lay w1 s B T i g C rest2 k s' m' wr) (h1:C.length≤k) (h2:k≤C.length)=>Made.trans HS1.out (hh.done h1 HM1.out.key.good HO.out hcl hcm h2))
  have HKS:=Lib.hid (show ∀ x ∈ C,x.key.size≤64 from fun x hx=>(HO.out.okm x ((hcm x).1 hx)).2)
  have hcn:C.length≤400:=by rw [HN.out] at hm1;omega
  obtain ⟨M,hM⟩:∃ M,M=C.length:=⟨_,rfl⟩
  have HMM:=Lib.hid hM
  rw [← hM] at HDN hcn ⊢
  clear hcl hcm hr5 hb5 hng hM5 hM HCP HR3 HM3 HST3
  have hPP:=HV2.out.2
  go_wp2_with fail
  go_loopw [29] (fun v wr=>∃ (k:Nat) (s':Bl) (m':List It),k≤M∧v = .int .i64 (k:Int)∧Lay w1 s B T i g C rest2 k s' m' wr) (fun v _=>M - (intOf v).toNat)
  case atStart=>exact ⟨0,s2,[],Nat.zero_le _,rfl,HLY.out⟩
  case round =>
   obtain ⟨k,s',m',hk,rfl,hL⟩:=hrel
   by_cases hlt:k < M
   ·have hki:(k:Int) < (M:Int):=by omega
    have HL:=Lib.hid hL
    have hkC:k < C.length:=by rw [← HMM.out];exact hlt
    have hrg:=hL.row.range hkC
    have hpp:s'.p=s.p:=hL.step.p
    have HSK:=Lib.hid (fun w2 (hh:Lay w1 s B T i g C rest2 k s' m' w2)=>hh.skip hkC)
    have HPU:=Lib.hid (fun w2 w3 v' (hh:Lay w1 s B T i g C rest2 k s' m' w2)=>hh.push (w2:=w3) (v':=v') hkC)
    have hks:=HKS.out _ (look_in hkC)
    obtain ⟨x,hx⟩:∃ x,x=Exp.look C k:=⟨_,rfl⟩
    rw [← hx] at hrg HSK HPU hks
    clear hx
    have e0:wr.cell? ⟨g,k * 2,none⟩=some (.int .u64 (x.time:Int)):=hrg 0 _ rfl
    have e1:wr.cell? ⟨g,k * 2+1,none⟩=some (.string x.key):=hrg 1 _ rfl
    clear hL hrg
    go_wp2_with fail
    have hLW:=HL.out.new ((But.refl (fun _=>False) wr).alloc (.cells (itB x) 68))
    have hxw:=Blk.new wr 68 (itB x)
    have his:=isof_any hLW.bm x (by omega)
    rw [hpp] at his
    have HW:=Lib.hid (And.intro hLW hxw)
    refine his.mono ?_
    rintro e w6 ⟨rfl,hb6⟩
    have HW6:=Lib.hid (And.intro (HW.out.1.new hb6) (HW.out.2.but hb6 (fun h=>h)))
    obtain ⟨b4,hb4⟩:∃ b,b=wr.heap.size:=⟨_,rfl⟩
    rw [← hb4] at HW6 ⊢
    clear hLW hxw his HW hb6 hb4 e0 e1
    cases hb:isOf T x with
    | false =>
     have HS6:=Lib.hid (HSK.out _ HW6.out.1 hb)
     go_wp2_with fail
     go_roundw
     case rel=>exact ⟨k+1,s',m',by omega,by go_num,HS6.out⟩
     case measure=>simp [intOf];omega
    | true =>
     have HR6:=Lib.hid (show World.rangeAt w6.drew b4 0 (Exp.icells x) from blk_range0 (A:=[]) (B:=Exp.icells x) (HW6.out.2.but ((But.refl (fun _=>False) w6).drew) (fun h=>h)))
     have HLD:=Lib.hid (HW6.out.1.new ((But.refl (fun _=>False) w6).drew))
     have HC8:=Lib.hid (show w6.drew.cell? ⟨s.p,8,none⟩=some (.pointer (some ⟨s'.hp,0,none⟩)) from by rw [← hpp];exact HLD.out.bm.cell 8)
     have HPS:=Lib.hid (Exp.hpush_any' HLD.out.bm.heap x (by have:=HLD.out.few;omega))
     go_wp2_with fail
     refine Late.region_goes (fun V=>V=w6.drew) (fun j=>j == 5) (by kernel_rfl) ?_ (fun hH=>?_)
     ·rfl
     refine Late.Goes.takeT (i:=0) (v:=?_) (by simp only [List.getElem?_toArray,List.getElem?_cons_succ,List.getElem?_cons_zero];rfl) (by kernel_rfl) (by kernel_rfl) (by kernel_rfl) (by kernel_rfl) (by kernel_rfl) (by exact fun _ _ _ h=>h) (Or.inl ⟨by rfl,?_⟩) hH ?_
     rotate_left
     ·(intro wy hSw;(try dsimp only at hSw);subst hSw;have k0:=HC8.out;go_simp;try (with_reducible rfl))
     try simp only [Act.put,List.setIfInBounds_toArray,List.set_cons_zero,List.set_cons_succ]
     refine Late.Goes.takeT (i:=1) (v:=?_) (by simp only [List.getElem?_toArray,List.getElem?_cons_succ,List.getElem?_cons_zero];rfl) (by kernel_rfl) (by kernel_rfl) (by kernel_rfl) (by kernel_rfl) (by kernel_rfl) (by exact fun _ _ _ h=>h) (Or.inl ⟨by rfl,?_⟩) hH ?_
     rotate_left
     ·(intro wy hSw;(try dsimp only at hSw);subst hSw;have k0:=HC8.out;go_simp;try (with_reducible rfl))
     try simp only [Act.put,List.setIfInBounds_toArray,List.set_cons_zero,List.set_cons_succ]
     refine Late.Goes.takeT (i:=2) (v:=?_) (by simp only [List.getElem?_toArray,List.getElem?_cons_succ,List.getElem?_cons_zero];rfl) (by kernel_rfl) (by kernel_rfl) (by kernel_rfl) (by kernel_rfl) (by kernel_rfl) (by exact fun _ _ _ h=>h) (Or.inl ⟨by rfl,?_⟩) hH ?_
     rotate_left
     ·(intro wy hSw;(try dsimp only at hSw);subst hSw;have k0:=HC8.out;go_simp;try (with_reducible rfl))
     try simp only [Act.put,List.setIfInBounds_toArray,List.set_cons_zero,List.set_cons_succ]
     refine Late.Goes.takeT (i:=3) (v:=?_) (by simp only [List.getElem?_toArray,List.getElem?_cons_succ,List.getElem?_cons_zero];rfl) (by kernel_rfl) (by kernel_rfl) (by kernel_rfl) (by kernel_rfl) (by kernel_rfl) (by exact fun _ _ _ h=>h) (Or.inl ⟨by rfl,?_⟩) hH ?_
     rotate_left
     ·(intro wy hSw;(try dsimp only at hSw);subst hSw;have k0:=HC8.out;go_simp;try (with_reducible rfl))
     try simp only [Act.put,List.setIfInBounds_toArray,List.set_cons_zero,List.set_cons_succ]
     refine Late.Goes.takeT (i:=4) (v:=_) (by simp only [List.getElem?_toArray,List.getElem?_cons_succ,List.getElem?_cons_zero];rfl) (by kernel_rfl) (by kernel_rfl) (by kernel_rfl) (by kernel_rfl) (by kernel_rfl) (by exact fun _ _ _ h=>h) (Exp.yields_item (by rfl) _ rfl b4 0 rfl x (fun V hV=>by rw [hV];exact HR6.out)) hH ?_
     try simp only [Act.put,List.setIfInBounds_toArray,List.set_cons_zero,List.set_cons_succ]
     refine Late.Goes.one (i:=5) (by kernel_rfl) (by simp only [List.getElem?_toArray,List.getElem?_cons_succ,List.getElem?_cons_zero];rfl) (fun K hK=>?_)
     clear hH
     go_simp
     go_at_call 57
     refine HPS.out.mono ?_
     rintro e w7 ⟨rfl,v7,hm7,hb7,hn7⟩
     have HL7:=Lib.hid (HPU.out _ _ _ HLD.out hm7 hb7 hn7)
     clear hm7 hb7 hn7
     refine hK.out _ _ ?_ (fun _=>?_)
     ·exact fun h=>by cases h
     clear hK K
     try simp only [Act.put,List.setIfInBounds_toArray,List.set_cons_zero,List.set_cons_succ]
     refine Late.Goes.done (by kernel_rfl) ?_ _
     go_wp2_with fail
     go_roundw
     case rel=>exact ⟨k+1,_,_,by omega,by go_num,HL7.out⟩
     case measure=>simp [intOf];omega
   ·have hkM:k=M:=by omega
    subst hkM
    have HE:=Lib.hid (HDN.out _ _ _ _ hL (Nat.le_refl _) hk)
    clear hL
    go_wp2_with fail
    go_end0
    exact ⟨rfl,HE.out⟩
end
end Go.Proofs.YtgjofinbdigmcaaGreat.Buk

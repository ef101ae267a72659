/- The document's used, Token, Meta, Rights, Bytes, New. -/
import Derived.Test.YtgjofinbdigmcaaGreatG34
set_option linter.unusedSimpArgs false
set_option linter.unusedVariables false
set_option maxHeartbeats 2000000
set_option maxRecDepth 100000
namespace Go.Proofs.YtgjofinbdigmcaaGreat.Buk
open Go.Proofs.YtgjofinbdigmcaaGreat.Mem
open Go.ChangeShapes Go.WideShapes Go.ChangeAt Go.RowKit
theorem look_at {s:Nat} {T:List Rgt.Tok} (hT:Rgt.Ris T) (h:Rgt.plc s T < T.length) (he:(T[Rgt.plc s T]).s=s):Rgt.look s T=some (T[Rgt.plc s T]):=by
 have h1:=(Rgt.plc_look (s:=s) hT).2 ⟨h,he⟩
 obtain ⟨x,hx⟩:=Option.isSome_iff_exists.1 h1
 rw [hx]
 obtain ⟨hm,hs⟩:=Rgt.look_mem hx
 obtain ⟨j,hj,rfl⟩:=List.getElem_of_mem hm
 rcases Nat.lt_trichotomy j (Rgt.plc s T) with h2|h2|h2
 ·have:=List.pairwise_iff_getElem.1 hT j (Rgt.plc s T) hj h h2
  omega
 ·simp only [h2]
 ·have:=List.pairwise_iff_getElem.1 hT (Rgt.plc s T) j h hj h2
  omega
theorem kbytes_snoc (K:List RK) (x:RK):kbytes (K++[x])=kbytes K+((x.key.size:Int)+(x.val.size:Int)):=by
 induction K with
 | nil=>show _+0=0+_;omega
 | cons y K ih=>simp only [List.cons_append,kbytes,ih];omega
theorem kbytes_ok:∀ {K:List RK},(∀ x ∈ K,x.key.size≤64∧x.val.size≤1000)→0≤kbytes K∧kbytes K≤1064 * (K.length:Int)
 | [],_=>by simp [kbytes]
 | x :: K,h=>by
  have h1:=h x (List.mem_cons_self ..)
  have h2:=kbytes_ok (K:=K) (fun y hy=>h y (List.mem_cons_of_mem _ hy))
  simp only [kbytes,List.length_cons]
  omega
section
variable {w w':World} {rp:Nat} {kv tv:Value} {B:Bk} {Ks:List RK}
theorem used_any (h:RM w rp kv tv B Ks) (n:Nat) (hn:n < 18446744073709551616) (hs:B.seq < 18446744073709551616):Calls Tryz.prog 37 #[.pointer (some ⟨rp,0,none⟩),.int .u64 (n:Int)] w fun e w'=>e = .returned (.tuple #[])∧RM w' rp kv tv { B with seq:=b64 B.seq n } Ks∧But (fun k=>k=rp) w w':=by
 have k5:w.cell? ⟨rp,5,none⟩=some (.int .u64 (B.seq:Int)):=h.blk.cell 5
 have f5:w.frozen? ⟨rp,5,none⟩=false:=h.blk.frozen 5
 obtain ⟨c,hc⟩:∃ c,c=B.seq:=⟨_,rfl⟩
 obtain ⟨v,hv,hv2⟩:∃ v:Nat,v=min (n+1) 18446744073709551615∧True:=⟨_,rfl,trivial⟩
 have HB:=Lib.hid (show b64 c n=max c v from by rw [hv];rfl)
 have HSE:=Lib.hid (show v > c→RM (w.setCell ⟨rp,5,none⟩ (.int .u64 (v:Int))) rp kv tv { B with seq:=b64 B.seq n } Ks∧But (fun k=>k=rp) w (w.setCell ⟨rp,5,none⟩ (.int .u64 (v:Int))) from fun hg=>by
  have h1:=h.set_ 5 (.int .u64 (v:Int)) (B':={ B with seq:=v }) rfl rfl rfl rfl
  rw [← hc,HB.out,show max c v=v from by omega]
  exact h1)
 have HNO:=Lib.hid (show ¬ v > c→RM w rp kv tv { B with seq:=b64 B.seq n } Ks from fun hg=>by
  rw [← hc,HB.out,show max c v=c from by omega,hc]
  exact h)
 rw [← hc] at k5
 clear h hc hv2 hs
 by_cases ht:n < 18446744073709551615
 ·have hti:(n:Int) < 18446744073709551615:=by omega
  have hw1:IntKind.u64.wrap ((n:Int)+1)=(v:Int):=by rw [IntWalk.u64_in _ (by omega)];omega
  by_cases hg:v > c
  ·have hgi:(c:Int) < (v:Int):=by omega
   have HE:=Lib.hid (HSE.out hg)
   clear hv hn ht hg
   go_enter Tryz.func37,Tryz.ntmps37
   go_wp2_with fail
   go_end0
   exact ⟨rfl,HE.out.1,HE.out.2⟩
  ·have hgi:¬ (c:Int) < (v:Int):=by omega
   have HE:=Lib.hid (HNO.out hg)
   clear hv hn ht hg
   go_enter Tryz.func37,Tryz.ntmps37
   go_wp2_with fail
   go_end0
   exact ⟨rfl,HE.out,But.refl _ _⟩
 ·have hti:¬ (n:Int) < 18446744073709551615:=by omega
  have hvn:n=v:=by omega
  subst hvn
  by_cases hg:n > c
  ·have hgi:(c:Int) < (n:Int):=by omega
   have HE:=Lib.hid (HSE.out hg)
   clear hv hn ht hg
   go_enter Tryz.func37,Tryz.ntmps37
   go_wp2_with fail
   go_end0
   exact ⟨rfl,HE.out.1,HE.out.2⟩
  ·have hgi:¬ (c:Int) < (n:Int):=by omega
   have HE:=Lib.hid (HNO.out hg)
   clear hv hn ht hg
   go_enter Tryz.func37,Tryz.ntmps37
   go_wp2_with fail
   go_end0
   exact ⟨rfl,HE.out,But.refl _ _⟩
theorem token_any (h:RM w rp kv tv B Ks) (hT:Rgt.Ris B.toks) (hl:B.toks.length≤1000) (s:Nat):Calls Tryz.prog 39 #[.pointer (some ⟨rp,0,none⟩),.int .u32 (s:Int)] w fun e w'=>e = .returned (.tuple #[.int .i64 ((Rgt.plc s B.toks:Nat):Int),.bool (Rgt.look s B.toks).isSome])∧But (fun _=>False) w w':=by
 have hq1:=Rgt.plc_le s B.toks
 rcases h.tform with ⟨hnil,a,c,rfl⟩|⟨g,c,htv⟩
 ·have k8:w.cell? ⟨rp,8,none⟩=some (.slice a 0 c):=h.blk.cell 8
  have HE:=Lib.hid (show Rgt.plc s B.toks=0∧(Rgt.look s B.toks).isSome=false from by rw [hnil];exact ⟨rfl,rfl⟩)
  clear h hq1 hnil hl hT
  go_enter Tryz.func39,Tryz.ntmps39
  go_wp2_with fail
  go_loopw [6] (fun v wr=>v = .int .i64 0∧w=wr) (fun _ _=>0)
  case atStart=>exact ⟨rfl,rfl⟩
  case round =>
   obtain ⟨rfl,rfl⟩:=hrel
   go_wp2
   go_returns
   exact ⟨by rw [HE.out.1,HE.out.2];rfl,But.refl _ _⟩
 ·have HK:=Lib.hid (fun i (hi:i < B.toks.length)=>show w.cell? ⟨g,i * 14+7,none⟩=some (.int .u32 ((B.toks[i]).s:Int)) from h.tcell htv hi (j:=7) (by omega))
  have HB:=Lib.hid (fun i (hi:i < B.toks.length) (hq:i < Rgt.plc s B.toks)=>Rgt.plc_below s hi hq)
  have HA:=Lib.hid (fun (hi:Rgt.plc s B.toks < B.toks.length)=>Rgt.plc_at s hi)
  have HF:=Lib.hid (show ∀ (i:Nat) (hi:i < B.toks.length),i=Rgt.plc s B.toks→(Rgt.look s B.toks).isSome=(((B.toks[i]).s:Int) == (s:Int)) from fun i hi he=>by
   subst he
   rw [Bool.eq_iff_iff,Rgt.plc_look hT]
   simp only [beq_iff_eq]
   exact ⟨fun ⟨_,h2⟩=>by omega,fun h2=>⟨hi,by omega⟩⟩)
  have HN:=Lib.hid (show Rgt.plc s B.toks=B.toks.length→(Rgt.look s B.toks).isSome=false from fun he=>by
   cases hb:(Rgt.look s B.toks).isSome with
   | false=>rfl
   | true=>obtain ⟨h1,_⟩:=(Rgt.plc_look hT).1 hb;omega)
  have k8:w.cell? ⟨rp,8,none⟩=some (.slice (some ⟨g,0,none⟩) B.toks.length c):=by rw [← htv];exact h.blk.cell 8
  have HD:=Lib.hid (fun j=>show (w.drewN j).cell? ⟨rp,8,none⟩=some (.slice (some ⟨g,0,none⟩) B.toks.length c) from k8)
  obtain ⟨q,hq⟩:∃ q,q=Rgt.plc s B.toks:=⟨_,rfl⟩
  obtain ⟨b,hb⟩:∃ b,b=(Rgt.look s B.toks).isSome:=⟨_,rfl⟩
  rw [← hq] at HB HA HF HN hq1 ⊢
  rw [← hb] at HF HN ⊢
  obtain ⟨n,hn⟩:∃ n,n=B.toks.length:=⟨_,rfl⟩
  have HLN:=Lib.hid hn
  rw [← hn] at HN hq1 k8 hl HD
  clear h htv hq hb hn hT
  go_enter Tryz.func39,Tryz.ntmps39
  go_wp2_with fail
  go_loopw [6] (fun v wr=>∃ i:Nat,i≤q∧v = .int .i64 (i:Int)∧w=wr) (fun v _=>n - (intOf v).toNat)
  case atStart=>exact ⟨0,by omega,rfl,rfl⟩
  case round =>
   obtain ⟨i,hi,rfl,rfl⟩:=hrel
   by_cases hin:i < n
   ·have hini:(i:Int) < (n:Int):=by omega
    have hiK:i < B.toks.length:=by rw [← HLN.out];exact hin
    have c0:=HK.out i hiK
    by_cases hiq:i < q
    ·have hlt:=HB.out i hiK hiq
     obtain ⟨x,hx⟩:∃ x,x=(B.toks[i]).s:=⟨_,rfl⟩
     rw [← hx] at c0 hlt
     have hlt2:(x:Int) < (s:Int):=by omega
     clear hx hlt
     go_wp2
     go_roundw
     case rel=>exact ⟨i+1,by omega,by go_num,by first|trivial|rfl⟩
     case measure=>(simp [intOf] <;> omega)
    ·have hqi:i=q:=by omega
     have hlt:=HA.out (by rw [← hqi];exact hiK)
     have hbx:=HF.out i hiK hqi
     simp only [← hqi] at hlt
     obtain ⟨x,hx⟩:∃ x,x=(B.toks[i]).s:=⟨_,rfl⟩
     rw [← hx] at c0 hlt hbx
     have hlt2:¬ (x:Int) < (s:Int):=by omega
     have hni:¬ (i:Int)=(n:Int):=by omega
     have HBX:=Lib.hid (And.intro hbx hqi)
     have k8':=HD.out
     have c0':∀ j,(w.drewN j).cell? ⟨g,i * 14+7,none⟩=some (.int .u32 (x:Int)):=fun j=>c0
     clear hx hlt hbx hqi
     go_wp2_with fail
     go_quiet (fail)
     go_wp2
     go_returns
     exact ⟨by rw [HBX.out.1,← HBX.out.2];rfl,(But.refl _ w).drewN nq⟩
   ·have hini:¬ (i:Int) < (n:Int):=by omega
    have hni:(i:Int)=(n:Int):=by omega
    have hqn:q=n:=by omega
    have HB0:=Lib.hid (HN.out hqn)
    have HQN:=Lib.hid hqn
    clear hqn
    go_wp2
    go_returns
    exact ⟨by rw [HB0.out,HQN.out];rfl,But.refl _ _⟩
theorem rmeta_any (h:RM w rp kv tv B Ks):Calls Tryz.prog 44 #[.pointer (some ⟨rp,0,none⟩)] w fun e w'=>e = .returned (Rec.rv (metaR B))∧But (fun _=>False) w w':=by
 have HX:=Lib.hid (Blk.new w 35 (Rec.cells Rec.zero))
 have HB0:=Lib.hid ((But.refl (fun _=>False) w).alloc (.cells (Rec.cells Rec.zero) 35))
 have HM:=Lib.hid (fun V (hV:But (fun _=>False) w V)=>(h.new hV).blk)
 have HC:=Lib.hid (fun V (hV:But (fun _=>False) w V)=>And.intro (show V.cell? ⟨rp,0,none⟩=some (.int .i64 B.id) from (h.new hV).blk.cell 0) (And.intro (show V.cell? ⟨rp,1,none⟩=some (.int .u32 (B.gen:Int)) from (h.new hV).blk.cell 1) (And.intro (show V.cell? ⟨rp,5,none⟩=some (.int .u64 (B.seq:Int)) from (h.new hV).blk.cell 5) (show V.cell? ⟨rp,6,none⟩=some (.int .u32 (B.serial:Int)) from (h.new hV).blk.cell 6))))
 have HQ:=Lib.hid (fun V (hV:But (fun _=>False) w V)=>show V.rangeAt rp 2 [.int .i64 B.q1,.int .i64 B.q2,.int .i64 B.q3] from fun j v hv=>by
  have hj:j < 3:=(List.getElem?_eq_some_iff.1 hv).1
  rw [(h.new hV).blk.cell]
  rcases j with _|_|_|j
  ·exact hv
  ·exact hv
  ·exact hv
  ·omega)
 clear h
 go_enter Tryz.func44,Tryz.ntmps44
 go_wp2_with fail
 obtain ⟨b2,hb2⟩:∃ b,b=w.heap.size:=⟨_,rfl⟩
 change Code.wp _ _ _ _ (w.alloc (.cells (Rec.cells Rec.zero) 35))
 rw [← hb2] at HX ⊢
 generalize w.alloc (.cells (Rec.cells Rec.zero) 35)=W at HX HB0 ⊢
 have HBL:=Lib.hid (show w.heap.size≤b2 from by omega)
 clear hb2
 refine Late.region_goes (fun V=>V=W.drew) (fun j=>j == 21) (by kernel_rfl) ?_ (fun hH=>?_)
 ·rfl
 refine Late.tk 0 ?_ ?_ hH ?_;rotate_left 2
 refine Late.tk 1 ?_ ?_ hH ?_;rotate_left 2
 refine Late.tk 2 ?_ ?_ hH ?_;rotate_left 2
 refine Late.tk 3 ?_ ?_ hH ?_;rotate_left 2
 refine Late.tk 4 ?_ ?_ hH ?_;rotate_left 2
 refine Late.tk 5 ?_ ?_ hH ?_;rotate_left 2
 refine Late.tk 6 ?_ ?_ hH ?_;rotate_left 2
 refine Late.tk 7 ?_ ?_ hH ?_;rotate_left 2
 refine Late.tk 8 ?_ ?_ hH ?_;rotate_left 2
 refine Late.tk 9 ?_ ?_ hH ?_;rotate_left 2
 refine Late.tk 10 ?_ ?_ hH ?_;rotate_left 2
 refine Late.tk 12 ?_ ?_ hH ?_;rotate_left 2
 refine Late.tk 13 ?_ ?_ hH ?_;rotate_left 2
 refine Late.tk 14 ?_ ?_ hH ?_;rotate_left 2
 refine Late.tk 15 ?_ ?_ hH ?_;rotate_left 2
 refine Late.tk 16 ?_ ?_ hH ?_;rotate_left 2
 refine Late.tk 17 ?_ ?_ hH ?_;rotate_left 2
 refine Late.tk 18 ?_ ?_ hH ?_;rotate_left 2
 refine Late.tk 19 ?_ ?_ hH ?_;rotate_left 2
 rotate_left
 any_goals (intro wy hSw;(try dsimp only at hSw);subst hSw;have kk:=HC.out _ HB0.out.drew;have k0:=kk.1;have k1:=kk.2.1;have k2:=kk.2.2.1;have k3:=kk.2.2.2;clear kk;go_simp;try (with_reducible rfl))
 try simp only [Act.put,List.setIfInBounds_toArray,List.set_cons_zero,List.set_cons_succ]
 refine Late.Goes.takeT (i:=11) (v:=_) (by simp only [List.getElem?_toArray,List.getElem?_cons_succ,List.getElem?_cons_zero];rfl) (by kernel_rfl) (by kernel_rfl) (by kernel_rfl) (by kernel_rfl) (by kernel_rfl) (by exact fun _ _ _ h=>h) (yields_quota (by rfl) _ rfl rp 2 rfl B.q1 B.q2 B.q3 (fun V hV=>by rw [hV];exact HQ.out _ HB0.out.drew)) hH ?_
 try simp only [Act.put,List.setIfInBounds_toArray,List.set_cons_zero,List.set_cons_succ]
 refine Late.tk 20 ?_ ?_ hH ?_;rotate_left 2
 rotate_left
 any_goals (intro wy hSw;(try dsimp only at hSw);subst hSw;have kk:=HC.out _ HB0.out.drew;have k0:=kk.1;have k1:=kk.2.1;have k2:=kk.2.2.1;have k3:=kk.2.2.2;clear kk;go_simp;try (with_reducible rfl))
 try simp only [Act.put,List.setIfInBounds_toArray,List.set_cons_zero,List.set_cons_succ]
 refine Late.Goes.one (i:=21) (by kernel_rfl) (by simp only [List.getElem?_toArray,List.getElem?_cons_succ,List.getElem?_cons_zero];rfl) (fun K hK=>?_)
 clear hH
 refine Key.wp_store_blk (by rfl) 35 _ _ rfl b2 0 (rcs (metaR B)) rfl rfl (blk_there0 (cs:=rcs Rec.zero) (HX.out.but ((But.refl (fun _=>False) W).drew) (fun h=>h)) (by rfl)) Rec.rec_size (rcs_one _) ?_
 have HS:=Lib.hid (And.intro (blk_set0 (cs:=rcs Rec.zero) (vs:=rcs (metaR B)) (HX.out.but ((But.refl (fun _=>False) W).drew) (fun h=>h)) (by rfl)) (HB0.out.drew.trans (but_setCells b2 (rcs (metaR B)) 0 W.drew) (fun k hk e=>by have:=HBL.out;omega)))
 generalize W.drew.setCells b2 0 (rcs (metaR B))=W3 at HS ⊢
 refine hK.out _ _ ?_ (fun _=>?_)
 ·exact fun h=>by cases h
 clear hK K
 try simp only [Act.put,List.setIfInBounds_toArray,List.set_cons_zero,List.set_cons_succ]
 refine Late.Goes.done (by kernel_rfl) ?_ _
 go_wp2_with fail
 refine bodyPost_ret (results_row1 rfl _ _ b2 35 (Rec.cells (metaR B)) (0,0) _ rfl HS.out.1 Tryz.underlying35 rfl Rec.rec_size) rfl ?_
 exact ⟨rfl,HS.out.2⟩
theorem rbytes_any (h:RM w rp kv tv B Ks) (hl:Ks.length≤1000) (hok:∀ x ∈ Ks,x.key.size≤64∧x.val.size≤1000):Calls Tryz.prog 42 #[.pointer (some ⟨rp,0,none⟩)] w fun e w'=>e = .returned (.int .i64 (kbytes Ks))∧But (fun _=>False) w w':=by
 rcases h.kform with ⟨rfl,a,c,rfl⟩|⟨g,c,hkv⟩
 ·have k7:w.cell? ⟨rp,7,none⟩=some (.slice a 0 c):=h.blk.cell 7
  clear h hok
  go_enter Tryz.func42,Tryz.ntmps42
  go_wp2_with fail
  go_loopw [3,4] (fun u v wr=>u = .int .i64 0∧v = .int .i64 0∧w=wr) (fun _ _ _=>0)
  case atStart=>exact ⟨rfl,rfl,rfl⟩
  case round =>
   obtain ⟨rfl,rfl,rfl⟩:=hrel
   go_wp2
   go_ret
   exact ⟨rfl,But.refl _ _⟩
 ·have HK:=Lib.hid (fun i (hi:i < Ks.length)=>And.intro (show w.cell? ⟨g,i * 7,none⟩=some (.string (Ks[i]).key) from h.kcell hkv hi (j:=0) (by omega)) (show w.cell? ⟨g,i * 7+1,none⟩=some (.string (Ks[i]).val) from h.kcell hkv hi (j:=1) (by omega)))
  have k7:w.cell? ⟨rp,7,none⟩=some (.slice (some ⟨g,0,none⟩) Ks.length c):=by rw [← hkv];exact h.blk.cell 7
  have HOK:=Lib.hid hok
  obtain ⟨n,hn⟩:∃ n,n=Ks.length:=⟨_,rfl⟩
  have HLN:=Lib.hid hn
  rw [← hn] at k7 hl
  have HC7:=Lib.hid (fun j=>show (w.drewN j).cell? ⟨rp,7,none⟩=some (.slice (some ⟨g,0,none⟩) n c) from k7)
  clear h hkv hn hok k7
  have k70:w.cell? ⟨rp,7,none⟩=some (.slice (some ⟨g,0,none⟩) n c):=HC7.out 0
  go_enter Tryz.func42,Tryz.ntmps42
  go_wp2_with fail
  go_loopw [3,4] (fun u v wr=>∃ (k j:Nat),k≤n∧u = .int .i64 (kbytes (Ks.take k))∧v = .int .i64 (k:Int)∧wr=w.drewN j) (fun _ v _=>n - (intOf v).toNat)
  case atStart=>exact ⟨0,0,Nat.zero_le _,rfl,rfl,rfl⟩
  case round =>
   obtain ⟨k,j,hk,rfl,rfl,rfl⟩:=hrel
   have k7:=HC7.out j
   by_cases hlt:k < n
   ·have hki:(k:Int) < (n:Int):=by omega
    have hkK:k < Ks.length:=by rw [← HLN.out];exact hlt
    have hc:=HK.out k hkK
    have ho:=HOK.out _ (List.getElem_mem hkK)
    have hb:=kbytes_ok (K:=Ks.take k) (fun x hx=>HOK.out x (List.mem_of_mem_take hx))
    have hlk:((Ks.take k).length:Int)≤1000:=by rw [List.length_take];omega
    have HSN:=Lib.hid (show kbytes (Ks.take (k+1))=kbytes (Ks.take k)+(((Ks[k]).key.size:Int)+((Ks[k]).val.size:Int)) from by rw [List.take_succ_eq_append_getElem hkK,kbytes_snoc])
    obtain ⟨x,hx⟩:∃ x,x=Ks[k]:=⟨_,rfl⟩
    rw [← hx] at hc ho HSN
    obtain ⟨z,hz⟩:∃ z,z=kbytes (Ks.take k):=⟨_,rfl⟩
    rw [← hz] at hb HSN ⊢
    have c0:∀ i,(w.drewN i).cell? ⟨g,k * 7,none⟩=some (.string x.key):=fun _=>hc.1
    have c1:∀ i,(w.drewN i).cell? ⟨g,k * 7+1,none⟩=some (.string x.val):=fun _=>hc.2
    have k7':=HC7.out
    obtain ⟨ho1,ho2⟩:=ho
    have w1:IntKind.i64.wrap ((x.key.size:Int)+(x.val.size:Int))=(x.key.size:Int)+(x.val.size:Int):=IntWalk.i64_in _ (by omega)
    have w2:IntKind.i64.wrap (z+((x.key.size:Int)+(x.val.size:Int)))=z+((x.key.size:Int)+(x.val.size:Int)):=IntWalk.i64_in _ (by omega)
    have HZ:=Lib.hid hz
    clear hx hz hc hb hlk ho1 ho2
    go_wp2_with fail
    go_quiet (fail)
    clear w1 w2 c0 c1 k7'
    go_wp2_with fail
    go_roundw
    case rel=>exact ⟨k+1,_,by omega,by rw [HSN.out],by go_num,rfl⟩
    case measure=>simp [intOf];omega
   ·have hkn:k=n:=by omega
    subst hkn
    have HT:=Lib.hid (show Ks.take k=Ks from by rw [HLN.out,List.take_length])
    go_wp2_with fail
    go_ret
    exact ⟨by rw [HT.out];rfl,(But.refl _ w).drewN j⟩
theorem rnew_any (id:Int) (gen:Nat) (q1 q2 q3:Int) (w:World):Calls Tryz.prog 6 #[.int .i64 id,.int .u32 (gen:Int),.agg #[.int .i64 q1,.int .i64 q2,.int .i64 q3]] w fun e w'=>∃ rp,e = .returned (.pointer (some ⟨rp,0,none⟩))∧RM w' rp (.slice none 0 0) (.slice none 0 0) (newB id gen q1 q2 q3) []∧w.heap.size≤rp∧But (fun _=>False) w w':=by
 have x0:(w.alloc (.cells #[.int .i64 q1,.int .i64 q2,.int .i64 q3] 24)).cell? ⟨w.heap.size,0,none⟩=some (.int .i64 q1):=(Blk.new w 24 (quB q1 q2 q3)).cell 0
 have x1:(w.alloc (.cells #[.int .i64 q1,.int .i64 q2,.int .i64 q3] 24)).cell? ⟨w.heap.size,1,none⟩=some (.int .i64 q2):=(Blk.new w 24 (quB q1 q2 q3)).cell 1
 have x2:(w.alloc (.cells #[.int .i64 q1,.int .i64 q2,.int .i64 q3] 24)).cell? ⟨w.heap.size,2,none⟩=some (.int .i64 q3):=(Blk.new w 24 (quB q1 q2 q3)).cell 2
 go_enter Tryz.func6,Tryz.ntmps6
 go_wp2_with fail
 go_ret
 have h1:=Blk.new (w.alloc (.cells (quB q1 q2 q3) 24)) 64 (rmcells (newB id gen q1 q2 q3) (.slice none 0 0) (.slice none 0 0))
 rw [show (w.alloc (.cells (quB q1 q2 q3) 24)).heap.size=w.heap.size+1 from by simp] at h1
 exact ⟨w.heap.size+1,by simp,⟨h1,World.ownsRow_nil _ _ _ _,World.ownsRow_nil _ _ _ _⟩,by omega,((But.refl _ w).alloc _).alloc _⟩
end
end Go.Proofs.YtgjofinbdigmcaaGreat.Buk

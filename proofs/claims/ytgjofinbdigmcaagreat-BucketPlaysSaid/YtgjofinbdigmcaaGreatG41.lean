/- BucketPlays, for every input: the walk of the law. -/
import Derived.Test.YtgjofinbdigmcaaGreatG40
set_option linter.unusedSimpArgs false
set_option linter.unusedVariables false
set_option maxHeartbeats 8000000
set_option maxRecDepth 100000
namespace Go.Proofs.YtgjofinbdigmcaaGreat.Buk
open Go.Proofs.YtgjofinbdigmcaaGreat.Mem
open Go.ChangeShapes Go.WideShapes Go.ChangeAt Go.RowKit
theorem pair_new {W w w':World} {s:Bl} {rp:Nat} {id q1 q2 q3:Int} {gen:Nat} (hid : -9223372036854775808≤id∧id≤9223372036854775807) (hg:gen < 4294967296) (hB:But (fun _=>False) W w) (h1:BM w s (newB id gen q1 q2 q3) noT [] 0) (h2:∀ k,Foot s k→W.heap.size≤k) (g:RM w' rp (.slice none 0 0) (.slice none 0 0) (newB id gen q1 q2 q3) []) (hr:w.heap.size≤rp) (hb:But (fun _=>False) w w'):Pair W w' s.p rp 0 (newB id gen q1 q2 q3) noT [] :=
 ⟨⟨⟨s,[],_,_,h1.new hb,ok_new id gen q1 q2 q3 hid hg,g,rfl,h2⟩,Nat.le_trans hB.size hr,hB.trans hb (fun _ _ h=>h)⟩,rep_new⟩
theorem deed_size:(Tryz.prog.info? 39).map (·.size)=some 19:=by kernel_rfl
theorem token_size:(Tryz.prog.info? 28).map (·.size)=some 4:=by kernel_rfl
theorem yields_token {ops:Array Oper} {S:World→Prop} {op:Oper} {a:Act} (hw:Region.wanted op (yielded ops a.tmps)=true) (x:Operand) (ho:op.op = .load 28 x) (b o:Nat) (hx:a.eval x = .pointer (some ⟨b,o,none⟩)) (t:Tkn) (hS:∀ w,S w→w.rangeAt b o [.int .i64 t.bucket,.int .u32 (t.gen:Int),.int .u32 (t.serial:Int),.int .u64 (t.secret:Int)]):YieldsIf Tryz.prog ops S op (.agg (tkB t)) a :=
 yieldsIf_load_mid hw _ x ho b o hx [.int .i64 t.bucket,.int .u32 (t.gen:Int),.int .u32 (t.serial:Int),.int .u64 (t.secret:Int)] _ hS Tryz.underlying28 rfl token_size
theorem token_at {w:World} {b:Nat} {t:Tkn} (h:Blk w b 28 (tkB t)):w.rangeAt b 0 [.int .i64 t.bucket,.int .u32 (t.gen:Int),.int .u32 (t.serial:Int),.int .u64 (t.secret:Int)]:=fun j u hu=>by
 rw [Nat.zero_add,h.cell j,← hu]
 exact List.getElem?_toArray
theorem deed_at {w:World} {b:Nat} {d:Deed} (h:Blk w b 39 (dcells d).toArray):w.cell? ⟨b,0,none⟩=some (.bool d.tick)∧w.cell? ⟨b,1,none⟩=some (.int .u64 (d.now:Int))∧w.cell? ⟨b,12,none⟩=some (.string d.r.key)∧w.cell? ⟨b,13,none⟩=some (.string d.r.val):=⟨h.cell 0,h.cell 1,h.cell 12,h.cell 13⟩
theorem deed_rec {w:World} {b:Nat} {d:Deed} (h:Blk w b 39 (dcells d).toArray):w.rangeAt b 2 (rcs d.r):=fun j u hu=>by
 rw [h.cell (2+j),List.getElem?_toArray,show dcells d=[Value.bool d.tick,.int .u64 (d.now:Int)]++(rcs d.r++[.int .i64 d.p.1,.int .i64 d.p.2.1,.int .i64 d.p.2.2]) from rfl,List.getElem?_append_right (by simp),List.getElem?_append_left (by simpa using (List.getElem?_eq_some_iff.1 hu).1)]
 simpa using hu
theorem deed_spot {w:World} {b:Nat} {d:Deed} (h:Blk w b 39 (dcells d).toArray):w.rangeAt b 16 [.int .i64 d.p.1,.int .i64 d.p.2.1,.int .i64 d.p.2.2]:=fun j u hu=>by
 rw [h.cell (16+j),List.getElem?_toArray,show dcells d=([Value.bool d.tick,.int .u64 (d.now:Int)]++rcs d.r)++[.int .i64 d.p.1,.int .i64 d.p.2.1,.int .i64 d.p.2.2] from rfl,List.getElem?_append_right (by simp [rcs])]
 simpa [rcs] using hu
def dzero:Deed:=⟨false,0,Rec.zero,(0,0,0)⟩
theorem dcells_one (d:Deed):∀ v ∈ dcells d,v.oneCell'=true:=by
 intro v hv
 simp only [dcells,rcs,List.cons_append,List.nil_append,List.mem_cons,List.not_mem_nil,or_false] at hv
 rcases hv with rfl|rfl|rfl|rfl|rfl|rfl|rfl|rfl|rfl|rfl|rfl|rfl|rfl|rfl|rfl|rfl|rfl|rfl|rfl <;> rfl
theorem Deeds.row {W wr:World} {a:Option Addr} {l:List Deed} (h:Deeds W a l) (hb:But (fun _=>False) W wr) {i:Nat} (hi:i < l.length):∃ g o,a=some ⟨g,o,none⟩∧wr.rangeAt g (o+i * 19) (dcells l[i]):=by
 obtain ⟨g,o,ha,hg,hc⟩:=h.at_ (by omega)
 refine ⟨g,o,ha,fun j u hu=>?_⟩
 rw [hb.cell (p:=⟨g,o+i * 19+j,none⟩) hg (fun h=>h)]
 exact hc i hi j u hu
theorem plays_away (id:Int) (gen:Nat) (q1 q2 q3:Int) (a:Option Addr) (n c:Nat) (t:Tkn) (W:World) (hn:n≤9223372036854775807) (h:150 < n) :
  Calls Tryz.prog 3 #[.int .i64 id,.int .u32 (gen:Int),.agg #[.int .i64 q1,.int .i64 q2,.int .i64 q3],.slice a n c,.agg #[.int .i64 t.bucket,.int .u32 (t.gen:Int),.int .u32 (t.serial:Int),.int .u64 (t.secret:Int)]] W fun e w'=>e = .returned (.bool true)∧But (fun _=>False) W w':=by
 have d0:150 < (n:Int):=by omega
 have HB0:=Lib.hid (((But.refl (fun _=>False) W).alloc (.cells (quB q1 q2 q3) 24)).alloc (.cells (tkB t) 28))
 go_enter Tryz.func3,Tryz.ntmps3
 go_wp2_with fail
 change Calls _ _ _ ((W.alloc (.cells (quB q1 q2 q3) 24)).alloc (.cells (tkB t) 28)) _
 refine (up_any _).mono ?_
 rintro e w1 ⟨rfl,hb1⟩
 have HB1:=Lib.hid (HB0.out.trans hb1 (fun _ _ h=>h))
 clear hb1
 go_wp2_with fail
 go_ret
 exact ⟨rfl,HB1.out⟩
theorem plays_any (id:Int) (gen:Nat) (q1 q2 q3:Int) (a:Option Addr) (l:List Deed) (c:Nat) (t:Tkn) (W:World) (hD:Deeds W a l) (hid : -9223372036854775808≤id∧id≤9223372036854775807) (hgn:gen < 4294967296) (ht:OkK t) (hn:l.length≤150) :
  Calls Tryz.prog 3 #[.int .i64 id,.int .u32 (gen:Int),.agg #[.int .i64 q1,.int .i64 q2,.int .i64 q3],.slice a l.length c,.agg #[.int .i64 t.bucket,.int .u32 (t.gen:Int),.int .u32 (t.serial:Int),.int .u64 (t.secret:Int)]] W fun e w'=>e = .returned (.bool true)∧But (fun _=>False) W w':=by
 have HDD:=Lib.hid hD
 have HID:=Lib.hid (And.intro hid hgn)
 have HTK:=Lib.hid ht
 obtain ⟨n,hnl⟩:∃ n,n=l.length:=⟨_,rfl⟩
 have HN:=Lib.hid hnl
 rw [← hnl] at hn ⊢
 have d0:¬ 150 < (n:Int):=by omega
 clear hD hid hgn ht hnl
 have HX0:=Lib.hid (Blk.two W (quB q1 q2 q3) (tkB t) 24 28)
 have HB0:=Lib.hid (((But.refl (fun _=>False) W).alloc (.cells (quB q1 q2 q3) 24)).alloc (.cells (tkB t) 28))
 go_enter Tryz.func3,Tryz.ntmps3
 go_wp2_with fail
 change Calls _ _ _ ((W.alloc (.cells (quB q1 q2 q3) 24)).alloc (.cells (tkB t) 28)) _
 refine (up_any _).mono ?_
 rintro e w1 ⟨rfl,hb1⟩
 obtain ⟨b7,hb7⟩:∃ b,b=W.heap.size:=⟨_,rfl⟩
 have HX1:=Lib.hid (And.intro (HX0.out.1.but hb1 (fun h=>h)) (HX0.out.2.but hb1 (fun h=>h)))
 rw [← hb7] at HX1 ⊢
 have HB1:=Lib.hid (HB0.out.trans hb1 (fun _ _ h=>h))
 clear hb1 hb7 HX0 HB0
 have e0:w1.cell? ⟨b7,0,none⟩=some (.int .i64 q1):=HX1.out.1.cell 0
 have e1:w1.cell? ⟨b7,1,none⟩=some (.int .i64 q2):=HX1.out.1.cell 1
 have e2:w1.cell? ⟨b7,2,none⟩=some (.int .i64 q3):=HX1.out.1.cell 2
 go_wp2_with fail
 refine (new_any id gen q1 q2 q3 w1).mono ?_
 rintro e w2 ⟨s0,rfl,hm2,hf2,hb2⟩
 have HM2:=Lib.hid (And.intro hm2 (And.intro hf2 hb2))
 have HX2:=Lib.hid (And.intro (HX1.out.1.but hb2 (fun h=>h)) (HX1.out.2.but hb2 (fun h=>h)))
 clear hm2 hf2 hb2 e0 e1 e2
 have e0:w2.cell? ⟨b7,0,none⟩=some (.int .i64 q1):=HX2.out.1.cell 0
 have e1:w2.cell? ⟨b7,1,none⟩=some (.int .i64 q2):=HX2.out.1.cell 1
 have e2:w2.cell? ⟨b7,2,none⟩=some (.int .i64 q3):=HX2.out.1.cell 2
 go_wp2_with fail
 refine (rnew_any id gen q1 q2 q3 w2).mono ?_
 rintro e w3 ⟨rp,rfl,hr3,hl3,hb3⟩
 have HP3:=Lib.hid (pair_new HID.out.1 HID.out.2 (HB1.out.trans HM2.out.2.2 (fun _ _ h=>h)) HM2.out.1 (fun k hk=>Nat.le_trans HB1.out.size (HM2.out.2.1 k hk)) hr3 hl3 hb3)
 have HX3:=Lib.hid (HX2.out.2.but hb3 (fun h=>h))
 obtain ⟨p0,hp0⟩:∃ p,p=s0.p:=⟨_,rfl⟩
 rw [← hp0] at HP3 ⊢
 clear hr3 hl3 hb3 hp0 e0 e1 e2 HX1 HX2 HM2 HB1 d0
 go_wp2_with fail
 go_loopw [14] (fun v wr=>∃ (k:Nat) (B:Bk) (T:Tab) (Ks:List RK),k≤n∧v = .int .i64 (k:Int)∧Pair W wr p0 rp k B T Ks∧B.id=id∧B.gen=gen∧Blk wr (b7+1) 28 (tkB t)) (fun v _=>n - (intOf v).toNat)
 case atStart=>exact ⟨0,_,_,_,Nat.zero_le _,rfl,HP3.out,rfl,rfl,HX3.out⟩
 case round =>
  obtain ⟨k,B,T,Ks,hk,rfl,hP,hBi,hBg,hX⟩:=hrel
  have HP:=Lib.hid hP
  have HX:=Lib.hid hX
  have HBG:=Lib.hid (And.intro hBi hBg)
  by_cases hlt:k < n
  ·have hki:(k:Int) < (n:Int):=by omega
   have hkl:k < l.length:=by rw [← HN.out];exact hlt
   obtain ⟨g,o,hag,hrow⟩:=HDD.out.row (wr:=wr) hP.two.but hkl
   have hod:=HDD.out.is_ l[k] (List.getElem_mem hkl)
   obtain ⟨d,hd⟩:∃ d,d=l[k]:=⟨_,rfl⟩
   rw [← hd] at hrow hod
   have HOD:=Lib.hid hod
   obtain ⟨cs,hcs⟩:∃ cs,cs=dcells d:=⟨_,rfl⟩
   rw [← hcs] at hrow
   have HRG:=Lib.hid hrow
   have HCS:=Lib.hid (And.intro (show cs.length=19 from by rw [hcs];rfl) (And.intro (show ∀ v ∈ cs,v.oneCell'=true from by rw [hcs];exact dcells_one d) hcs))
   subst hag
   have HY0:=Lib.hid (Blk.new wr 39 (dcells dzero).toArray)
   have HY1:=Lib.hid ((But.refl (fun _=>False) wr).alloc (.cells (dcells dzero).toArray 39))
   obtain ⟨b15,hb15⟩:∃ b,b=wr.heap.size:=⟨_,rfl⟩
   have HYT:=Lib.hid (blk_there0 (n:=19) HY0.out (by rfl))
   rw [← hb15] at HY0 HYT
   have HYX:=Lib.hid (And.intro (blk_set0 (vs:=cs) HY0.out (by rw [HCS.out.1];rfl)) (HY1.out.trans (but_setCells b15 cs 0 (wr.alloc (.cells (dcells dzero).toArray 39))) (fun j hj e=>by omega)))
   obtain ⟨W1,hW1⟩:∃ W,W=(wr.alloc (.cells (dcells dzero).toArray 39)).setCells b15 0 cs:=⟨_,rfl⟩
   rw [← hW1] at HYX
   have HXD:=Lib.hid (show Blk W1 b15 39 (dcells d).toArray from by rw [← HCS.out.2.2];exact HYX.out.1)
   have HBD:=Lib.hid HYX.out.2
   have HYE:=Lib.hid hW1
   have HYS:=Lib.hid hb15
   clear hW1 hb15 HY0 HY1 HYX hcs hrow hod hd hP hX hBi hBg
   go_wp2_with (first
    | (refine wpList_load_mid rfl 39 _ rfl g (o+k * 19) rfl cs _ HRG.out Tryz.underlying39 rfl (by rw [HCS.out.1];exact deed_size) ?_)
    | (rw [← HYS.out];refine wpList_store_mid rfl 39 _ _ rfl b15 0 cs.toArray rfl rfl (by simp only [List.size_toArray,HCS.out.1];exact HYT.out) (by simp only [List.size_toArray,HCS.out.1];exact deed_size) (all_oneCell_toArray HCS.out.2.1) ?_;change wpList _ _ _ _ _ ((wr.alloc (.cells (dcells dzero).toArray 39)).setCells b15 0 cs);rw [← HYE.out];refine Hid.out ?_))
   refine Lib.hid ?_
   have HP1:=Lib.hid (HP.out.new HBD.out)
   have HX1:=Lib.hid (HX.out.but HBD.out (fun h=>h))
   clear HP HX HBD HRG HP3 HX3 HYT HYE HYS HCS
   obtain ⟨x0,x1,x12,x13⟩:=deed_at HXD.out
   by_cases hkey:200 < d.r.key.size
   ·have t1:(200:Int) < (d.r.key.size:Int):=by omega
    clear x0 x1
    go_wp2_with fail
    go_ret
    exact ⟨rfl,HP1.out.two.but⟩
   ·have t1:¬ (200:Int) < (d.r.key.size:Int):=by omega
    by_cases hval:2000 < d.r.val.size
    ·have t2:(2000:Int) < (d.r.val.size:Int):=by omega
     clear x0 x1
     go_wp2_with fail
     go_ret
     exact ⟨rfl,HP1.out.two.but⟩
    ·have t2:¬ (2000:Int) < (d.r.val.size:Int):=by omega
     have HKV:=Lib.hid hkey
     obtain ⟨dt,hdt⟩:∃ b,b=d.tick:=⟨_,rfl⟩
     rw [← hdt] at x0
     clear hdt x1 hkey hval
     cases dt with
     | true =>
      go_wp2_with fail
      clear x0 x12 x13 t1 t2
      refine Late.region_goes (fun V=>Blk V b15 39 (dcells d).toArray) (fun j=>Nat.ble 7 j) (by kernel_rfl) ?_ (fun hH=>?_)
      ·exact HXD.out.but ((But.refl (fun _=>False) W1).drew) (fun h=>h)
      refine Late.tk 0 ?_ ?_ hH ?_;rotate_left 2
      refine Late.tk 1 ?_ ?_ hH ?_;rotate_left 2
      refine Late.tk 2 ?_ ?_ hH ?_;rotate_left 2
      refine Late.tk 4 ?_ ?_ hH ?_;rotate_left 2
      refine Late.tk 5 ?_ ?_ hH ?_;rotate_left 2
      refine Late.tk 6 ?_ ?_ hH ?_;rotate_left 2
      rotate_left
      any_goals (intro wy hSw;(try dsimp only at hSw);obtain ⟨k0,k1,k2,k3⟩:=deed_at hSw;go_simp;try (with_reducible rfl))
      try simp only [Act.put,List.setIfInBounds_toArray,List.set_cons_zero,List.set_cons_succ]
      have HV:=Lib.hid (show But (fun _=>False) W1 W1.drew from (But.refl (fun _=>False) W1).drew)
      generalize W1.drew=V1 at HV hH ⊢
      refine Late.Goes.one (i:=3) (by kernel_rfl) (by simp only [List.getElem?_toArray,List.getElem?_cons_succ,List.getElem?_cons_zero];rfl) (fun K hK=>?_)
      clear hH
      go_simp
      go_at_call 7
      refine ((HP1.out.new HV.out).two.tick (by omega) d.now).mono ?_
      rintro e w4 ⟨c,T',rfl,h2,ht,hc,hkp⟩
      have HT4:=Lib.hid (And.intro h2 (And.intro ht hc))
      have HK4:=Lib.hid hkp
      clear h2 ht hc hkp
      refine hK.out _ _ ?_ (fun hH=>?_)
      ·exact fun _=>HK4.out _ _ _ (Or.inl rfl) (HXD.out.but HV.out (fun h=>h))
      clear hK K
      have hH:=hH rfl
      try simp only [Act.put,List.setIfInBounds_toArray,List.set_cons_zero,List.set_cons_succ]
      refine Late.Goes.one (i:=7) (by kernel_rfl) (by simp only [List.getElem?_toArray,List.getElem?_cons_succ,List.getElem?_cons_zero];rfl) (fun K hK=>?_)
      clear hH
      go_simp
      go_at_call 8
      refine (HT4.out.1.rtick (by have:=HP1.out.cnt.2;omega) d.now).mono ?_
      rintro e w5 ⟨rfl,h3,hkp⟩
      obtain ⟨hpr,hce⟩:=HP1.out.ticked HT4.out.2.1 HT4.out.2.2 h3
      rw [← hce]
      have HP5:=Lib.hid (hpr.more (i:=k) (by omega))
      have HD5:=Lib.hid (hkp _ _ _ (Or.inl rfl) (HK4.out _ _ _ (Or.inl rfl) (HXD.out.but HV.out (fun h=>h))))
      have HX5:=Lib.hid (hkp _ _ _ (Or.inr rfl) (HK4.out _ _ _ (Or.inr rfl) (HX1.out.but HV.out (fun h=>h))))
      have HB5:=Lib.hid (show ({ B with bytes:=tot (all T') }:Bk).id=id∧({ B with bytes:=tot (all T') }:Bk).gen=gen from HBG.out)
      clear h3 hkp hpr hce
      generalize ({ B with bytes:=tot (all T') }:Bk)=B1 at HP5 HB5
      generalize Ks.filter (stays d.now)=Ks1 at HP5
      refine hK.out _ _ ?_ (fun _=>?_)
      ·exact fun h=>by cases h
      clear hK K
      try simp only [Act.put,List.setIfInBounds_toArray,List.set_cons_zero,List.set_cons_succ]
      have hH:True:=trivial
      refine Late.Goes.one (i:=8) (by kernel_rfl) (by simp only [List.getElem?_toArray,List.getElem?_cons_succ,List.getElem?_cons_zero];rfl) (fun K hK=>?_)
      clear hH
      go_simp
      refine hK.out _ _ ?_ (fun _=>?_)
      ·exact fun h=>by cases h
      clear hK K
      try simp only [Act.put,List.setIfInBounds_toArray,List.set_cons_zero,List.set_cons_succ]
      refine Late.Goes.done (by kernel_rfl) ?_ _
      clear HT4 HK4 HP1 HX1 HXD HV HBG
      go_wp2_with fail
      refine Late.region_goes (fun V=>But (fun _=>False) w5 V) (fun _=>false) (by kernel_rfl) ?_ (fun hH=>?_)
      ·exact (But.refl _ w5).drew
      refine Late.tk 0 ?_ ?_ hH ?_ (hw:=by kernel_rfl);rotate_left;focus (intro wy hSw;(try dsimp only at hSw);skip;go_simp;try (with_reducible rfl))
      refine Late.tk 1 ?_ ?_ hH ?_ (hw:=by kernel_rfl);rotate_left;focus (intro wy hSw;(try dsimp only at hSw);skip;go_simp;try (with_reducible rfl))
      try simp only [Act.put,List.setIfInBounds_toArray,List.set_cons_zero,List.set_cons_succ]
      have HV:=Lib.hid hH
      refine Late.Goes.one (i:=2) (by kernel_rfl) (by simp only [List.getElem?_toArray,List.getElem?_cons_succ,List.getElem?_cons_zero];rfl) (fun K hK=>?_)
      clear hH
      go_simp
      go_at_call 11
      refine ((HP5.out.new HV.out).same (by omega)).mono ?_
      rintro e w6 ⟨rfl,hb6⟩
      have HV6:=Lib.hid (HV.out.trans hb6 (fun _ _ h=>h))
      clear hb6
      refine hK.out _ _ ?_ (fun hH=>?_)
      ·exact fun _=>HV6.out
      clear hK K
      have hH:=hH rfl
      try simp only [Act.put,List.setIfInBounds_toArray,List.set_cons_zero,List.set_cons_succ]
      refine Late.tk 3 ?_ ?_ hH ?_ (hw:=by kernel_rfl);rotate_left;focus (intro wy hSw;(try dsimp only at hSw);skip;go_simp;try (with_reducible rfl))
      refine Late.tk 4 ?_ ?_ hH ?_ (hw:=by kernel_rfl);rotate_left;focus (intro wy hSw;(try dsimp only at hSw);skip;go_simp;try (with_reducible rfl))
      refine Late.tk 5 ?_ ?_ hH ?_ (hw:=by kernel_rfl);rotate_left;focus (intro wy hSw;(try dsimp only at hSw);skip;go_simp;try (with_reducible rfl))
      refine Late.tk 8 ?_ ?_ hH ?_ (hw:=by kernel_rfl);rotate_left;focus (intro wy hSw;(try dsimp only at hSw);skip;go_simp;try (with_reducible rfl))
      try simp only [Act.put,List.setIfInBounds_toArray,List.set_cons_zero,List.set_cons_succ]
      refine Late.Goes.takeT (i:=6) (v:=_) (by simp only [List.getElem?_toArray,List.getElem?_cons_succ,List.getElem?_cons_zero];rfl) (by kernel_rfl) (by kernel_rfl) (by kernel_rfl) (by kernel_rfl) (by kernel_rfl) (by exact fun _ _ _ h=>h) (yields_token (by rfl) _ rfl (b7+1) 0 rfl t (fun V hV=>token_at (HX5.out.but hV (fun h=>h)))) hH ?_
      try simp only [Act.put,List.setIfInBounds_toArray,List.set_cons_zero,List.set_cons_succ]
      refine Late.Goes.takeT (i:=9) (v:=_) (by simp only [List.getElem?_toArray,List.getElem?_cons_succ,List.getElem?_cons_zero];rfl) (by kernel_rfl) (by kernel_rfl) (by kernel_rfl) (by kernel_rfl) (by kernel_rfl) (by exact fun _ _ _ h=>h) (yields_token (by rfl) _ rfl (b7+1) 0 rfl t (fun V hV=>token_at (HX5.out.but hV (fun h=>h)))) hH ?_
      try simp only [Act.put,List.setIfInBounds_toArray,List.set_cons_zero,List.set_cons_succ]
      refine Late.Goes.one (i:=7) (by kernel_rfl) (by simp only [List.getElem?_toArray,List.getElem?_cons_succ,List.getElem?_cons_zero];rfl) (fun K hK=>?_)
      clear hH
      go_simp
      go_at_call 12
      refine ((HP5.out.new HV6.out).rights t HTK.out).mono ?_
      rintro e w7 ⟨rfl,hb7⟩
      have HV7:=Lib.hid (HV6.out.trans hb7 (fun _ _ h=>h))
      clear hb7
      refine hK.out _ _ ?_ (fun hH=>?_)
      ·exact fun _=>HV7.out
      clear hK K
      have hH:=hH rfl
      try simp only [Act.put,List.setIfInBounds_toArray,List.set_cons_zero,List.set_cons_succ]
      refine Late.Goes.one (i:=10) (by kernel_rfl) (by simp only [List.getElem?_toArray,List.getElem?_cons_succ,List.getElem?_cons_zero];rfl) (fun K hK=>?_)
      clear hH
      go_simp
      go_at_call 13
      refine ((HP5.out.new HV7.out).rrights t HTK.out).mono ?_
      rintro e w8 ⟨rfl,hb8⟩
      have HV8:=Lib.hid (HV7.out.trans hb8 (fun _ _ h=>h))
      clear hb8
      refine hK.out _ _ ?_ (fun hH=>?_)
      ·exact fun _=>HV8.out
      clear hK K
      have hH:=hH rfl
      try simp only [Act.put,List.setIfInBounds_toArray,List.set_cons_zero,List.set_cons_succ]
      refine Late.tk 11 ?_ ?_ hH ?_ (hw:=by kernel_rfl);rotate_left;focus (intro wy hSw;(try dsimp only at hSw);skip;go_simp;try (with_reducible rfl))
      refine Late.tk 12 ?_ ?_ hH ?_ (hw:=by kernel_rfl);rotate_left;focus (intro wy hSw;(try dsimp only at hSw);skip;go_simp;try (with_reducible rfl))
      try simp only [Act.put,List.setIfInBounds_toArray,List.set_cons_zero,List.set_cons_succ]
      refine Late.Goes.done (by kernel_rfl) ?_ _
      clear HV HV6 HV7 hH
      have HP8:=Lib.hid (HP5.out.new HV8.out)
      have HD8:=Lib.hid (HD5.out.but HV8.out (fun h=>h))
      have HX8:=Lib.hid (HX5.out.but HV8.out (fun h=>h))
      clear HP5 HD5 HX5 HV8
      obtain ⟨fh,hfh⟩:∃ b,b=fhas d.r.key Ks1:=⟨_,rfl⟩
      have HFH:=Lib.hid hfh
      have HGET:=Lib.hid (HP8.out.get d.r.key (by have:=HKV.out;omega))
      rw [← hfh] at HGET
      clear hfh
      obtain ⟨-,-,x12,-⟩:=deed_at HD8.out
      go_wp2_with fail
      refine HGET.out.mono ?_
      rintro e w10 ⟨rfl,hb10⟩
      have HP10:=Lib.hid (HP8.out.new hb10)
      have HD10:=Lib.hid (HD8.out.but hb10 (fun h=>h))
      have HX10:=Lib.hid (HX8.out.but hb10 (fun h=>h))
      clear hb10 x12 HGET HP8 HD8 HX8
      have HY0:=Lib.hid (Blk.new w10 45 (entB Key.zero))
      have HY1:=Lib.hid ((But.refl (fun _=>False) w10).alloc (.cells (entB Key.zero) 45))
      obtain ⟨b16,hb16⟩:∃ b,b=w10.heap.size:=⟨_,rfl⟩
      have HYT:=Lib.hid (blk_there0 (n:=7) HY0.out (by rfl))
      rw [← hb16] at HY0 HYT
      have HYX:=Lib.hid (And.intro (blk_set0 (vs:=Key.ecells (Key.ent (Key.ask T' d.r.key))) HY0.out (by rw [Key.ecells_length];rfl)) (HY1.out.trans (but_setCells b16 (Key.ecells (Key.ent (Key.ask T' d.r.key))) 0 (w10.alloc (.cells (entB Key.zero) 45))) (fun j hj e=>by omega)))
      obtain ⟨W11,hW11⟩:∃ W,W=(w10.alloc (.cells (entB Key.zero) 45)).setCells b16 0 (Key.ecells (Key.ent (Key.ask T' d.r.key))):=⟨_,rfl⟩
      rw [← hW11] at HYX
      have HYE:=Lib.hid hW11
      have HYS:=Lib.hid hb16
      clear hW11 hb16 HY0 HY1
      have HP11:=Lib.hid (HP10.out.new HYX.out.2)
      have HD11:=Lib.hid (HD10.out.but HYX.out.2 (fun h=>h))
      have HX11:=Lib.hid (HX10.out.but HYX.out.2 (fun h=>h))
      clear HP10 HD10 HX10
      obtain ⟨-,-,x12,-⟩:=deed_at HD11.out
      have HFIN:=Lib.hid (HP11.out.find (by omega) d.r.key)
      rw [← HFH.out] at HFIN
      go_wp2_with (rw [← HYS.out];refine wpList_store_mid rfl 45 _ _ rfl b16 0 (Key.ecells (Key.ent (Key.ask T' d.r.key))).toArray rfl rfl (by simp only [List.size_toArray,Key.ecells_length];exact HYT.out) (by simp only [List.size_toArray,Key.ecells_length];exact Key.entry_size) (all_oneCell_toArray (Key.ecells_one _)) ?_;change wpList _ _ _ _ _ ((w10.alloc (.cells (entB Key.zero) 45)).setCells b16 0 (Key.ecells (Key.ent (Key.ask T' d.r.key))));rw [← HYE.out])
      refine HFIN.out.mono ?_
      rintro e w12 ⟨rfl,hb12⟩
      have HP12:=Lib.hid (HP11.out.new hb12)
      have HX12:=Lib.hid (HX11.out.but hb12 (fun h=>h))
      have e4:w12.cell? ⟨b16,4,none⟩=some (.int .u64 ((Key.ent (Key.ask T' d.r.key)).ver:Int)):=(HYX.out.1.but hb12 (fun h=>h)).cell 4
      clear hb12 x12 HFIN HP11 HD11 HX11 HYX HYE HYS HYT
      cases fh with
      | true =>
       clear e4
       go_wp2_with fail
       go_roundw
       case rel=>exact ⟨k+1,_,_,_,by omega,by go_num,HP12.out,HB5.out.1,HB5.out.2,HX12.out⟩
       case measure=>simp [intOf];omega
      | false =>
       have h0:=HP12.out.absent HFH.out.symm
       rw [h0] at e4
       have e4:w12.cell? ⟨b16,4,none⟩=some (.int .u64 0):=e4
       clear h0
       go_wp2_with fail
       go_roundw
       case rel=>exact ⟨k+1,_,_,_,by omega,by go_num,HP12.out,HB5.out.1,HB5.out.2,HX12.out⟩
       case measure=>simp [intOf];omega
     | false =>
      go_wp2_with fail
      clear x0 x12 x13 t1 t2
      refine Late.region_goes (fun V=>Blk V b15 39 (dcells d).toArray) (fun j=>Nat.ble 11 j) (by kernel_rfl) ?_ (fun hH=>?_)
      ·exact HXD.out.but ((But.refl (fun _=>False) W1).drew) (fun h=>h)
      refine Late.tk 0 ?_ ?_ hH ?_ (hw:=by kernel_rfl);rotate_left;focus (intro wy hSw;(try dsimp only at hSw);skip;go_simp;try (with_reducible rfl))
      refine Late.tk 1 ?_ ?_ hH ?_ (hw:=by kernel_rfl);rotate_left;focus (intro wy hSw;(try dsimp only at hSw);skip;go_simp;try (with_reducible rfl))
      refine Late.tk 3 ?_ ?_ hH ?_ (hw:=by kernel_rfl);rotate_left;focus (intro wy hSw;(try dsimp only at hSw);skip;go_simp;try (with_reducible rfl))
      refine Late.tk 6 ?_ ?_ hH ?_ (hw:=by kernel_rfl);rotate_left;focus (intro wy hSw;(try dsimp only at hSw);skip;go_simp;try (with_reducible rfl))
      refine Late.tk 7 ?_ ?_ hH ?_ (hw:=by kernel_rfl);rotate_left;focus (intro wy hSw;(try dsimp only at hSw);skip;go_simp;try (with_reducible rfl))
      refine Late.tk 9 ?_ ?_ hH ?_ (hw:=by kernel_rfl);rotate_left;focus (intro wy hSw;(try dsimp only at hSw);skip;go_simp;try (with_reducible rfl))
      try simp only [Act.put,List.setIfInBounds_toArray,List.set_cons_zero,List.set_cons_succ]
      refine Late.Goes.takeT (i:=2) (v:=_) (by simp only [List.getElem?_toArray,List.getElem?_cons_succ,List.getElem?_cons_zero];rfl) (by kernel_rfl) (by kernel_rfl) (by kernel_rfl) (by kernel_rfl) (by kernel_rfl) (by exact fun _ _ _ h=>h) (yields_rec (by rfl) _ rfl b15 2 rfl d.r (fun V hV=>deed_rec hV)) hH ?_
      try simp only [Act.put,List.setIfInBounds_toArray,List.set_cons_zero,List.set_cons_succ]
      refine Late.Goes.takeT (i:=8) (v:=_) (by simp only [List.getElem?_toArray,List.getElem?_cons_succ,List.getElem?_cons_zero];rfl) (by kernel_rfl) (by kernel_rfl) (by kernel_rfl) (by kernel_rfl) (by kernel_rfl) (by exact fun _ _ _ h=>h) (yields_rec (by rfl) _ rfl b15 2 rfl d.r (fun V hV=>deed_rec hV)) hH ?_
      try simp only [Act.put,List.setIfInBounds_toArray,List.set_cons_zero,List.set_cons_succ]
      refine Late.Goes.takeT (i:=4) (v:=_) (by simp only [List.getElem?_toArray,List.getElem?_cons_succ,List.getElem?_cons_zero];rfl) (by kernel_rfl) (by kernel_rfl) (by kernel_rfl) (by kernel_rfl) (by kernel_rfl) (by exact fun _ _ _ h=>h) (yields_spot (by rfl) _ rfl b15 16 rfl d.p (fun V hV=>deed_spot hV)) hH ?_
      try simp only [Act.put,List.setIfInBounds_toArray,List.set_cons_zero,List.set_cons_succ]
      refine Late.Goes.takeT (i:=10) (v:=_) (by simp only [List.getElem?_toArray,List.getElem?_cons_succ,List.getElem?_cons_zero];rfl) (by kernel_rfl) (by kernel_rfl) (by kernel_rfl) (by kernel_rfl) (by kernel_rfl) (by exact fun _ _ _ h=>h) (yields_spot (by rfl) _ rfl b15 16 rfl d.p (fun V hV=>deed_spot hV)) hH ?_
      try simp only [Act.put,List.setIfInBounds_toArray,List.set_cons_zero,List.set_cons_succ]
      have HV:=Lib.hid (show But (fun _=>False) W1 W1.drew from (But.refl (fun _=>False) W1).drew)
      generalize W1.drew=V1 at HV hH ⊢
      refine Late.Goes.one (i:=5) (by kernel_rfl) (by simp only [List.getElem?_toArray,List.getElem?_cons_succ,List.getElem?_cons_zero];rfl) (fun K hK=>?_)
      clear hH
      go_simp
      go_at_call 9
      refine ((HP1.out.new HV.out).two.apply (by omega) d.r HOD.out.r d.p HOD.out.p).mono ?_
      rintro e w4 ⟨rfl,h2,hkp⟩
      have HT4:=Lib.hid h2
      have HK4:=Lib.hid hkp
      clear h2 hkp
      refine hK.out _ _ ?_ (fun hH=>?_)
      ·exact fun _=>HK4.out _ _ _ (Or.inl rfl) (HXD.out.but HV.out (fun h=>h))
      clear hK K
      have hH:=hH rfl
      try simp only [Act.put,List.setIfInBounds_toArray,List.set_cons_zero,List.set_cons_succ]
      refine Late.Goes.one (i:=11) (by kernel_rfl) (by simp only [List.getElem?_toArray,List.getElem?_cons_succ,List.getElem?_cons_zero];rfl) (fun K hK=>?_)
      clear hH
      go_simp
      go_at_call 10
      refine (HT4.out.rapply (HP1.out.rok (by omega)) d.r HOD.out.r d.p HOD.out.p).mono ?_
      rintro e w5 ⟨rfl,h3,hkp⟩
      have HP5:=Lib.hid (h3.app HP1.out.rep HP1.out.good)
      have HD5:=Lib.hid (hkp _ _ _ (Or.inl rfl) (HK4.out _ _ _ (Or.inl rfl) (HXD.out.but HV.out (fun h=>h))))
      have HX5:=Lib.hid (hkp _ _ _ (Or.inr rfl) (HK4.out _ _ _ (Or.inr rfl) (HX1.out.but HV.out (fun h=>h))))
      have HB5:=Lib.hid (show (app B T d.r d.p).id=id∧(app B T d.r d.p).gen=gen from ⟨(app_id B T d.r d.p).1.trans HBG.out.1,(app_id B T d.r d.p).2.trans HBG.out.2⟩)
      clear h3 hkp
      generalize app B T d.r d.p=B1 at HP5 HB5
      generalize appT B T d.r d.p=T' at HP5
      generalize kapp B d.r d.p Ks=Ks1 at HP5
      refine hK.out _ _ ?_ (fun _=>?_)
      ·exact fun h=>by cases h
      clear hK K
      try simp only [Act.put,List.setIfInBounds_toArray,List.set_cons_zero,List.set_cons_succ]
      have hH:True:=trivial
      refine Late.Goes.one (i:=12) (by kernel_rfl) (by simp only [List.getElem?_toArray,List.getElem?_cons_succ,List.getElem?_cons_zero];rfl) (fun K hK=>?_)
      clear hH
      go_simp
      refine hK.out _ _ ?_ (fun _=>?_)
      ·exact fun h=>by cases h
      clear hK K
      try simp only [Act.put,List.setIfInBounds_toArray,List.set_cons_zero,List.set_cons_succ]
      refine Late.Goes.done (by kernel_rfl) ?_ _
      clear HT4 HK4 HP1 HX1 HXD HV HBG
      go_wp2_with fail
      refine Late.region_goes (fun V=>But (fun _=>False) w5 V) (fun _=>false) (by kernel_rfl) ?_ (fun hH=>?_)
      ·exact (But.refl _ w5).drew
      refine Late.tk 0 ?_ ?_ hH ?_ (hw:=by kernel_rfl);rotate_left;focus (intro wy hSw;(try dsimp only at hSw);skip;go_simp;try (with_reducible rfl))
      refine Late.tk 1 ?_ ?_ hH ?_ (hw:=by kernel_rfl);rotate_left;focus (intro wy hSw;(try dsimp only at hSw);skip;go_simp;try (with_reducible rfl))
      try simp only [Act.put,List.setIfInBounds_toArray,List.set_cons_zero,List.set_cons_succ]
      have HV:=Lib.hid hH
      refine Late.Goes.one (i:=2) (by kernel_rfl) (by simp only [List.getElem?_toArray,List.getElem?_cons_succ,List.getElem?_cons_zero];rfl) (fun K hK=>?_)
      clear hH
      go_simp
      go_at_call 11
      refine ((HP5.out.new HV.out).same (by omega)).mono ?_
      rintro e w6 ⟨rfl,hb6⟩
      have HV6:=Lib.hid (HV.out.trans hb6 (fun _ _ h=>h))
      clear hb6
      refine hK.out _ _ ?_ (fun hH=>?_)
      ·exact fun _=>HV6.out
      clear hK K
      have hH:=hH rfl
      try simp only [Act.put,List.setIfInBounds_toArray,List.set_cons_zero,List.set_cons_succ]
      refine Late.tk 3 ?_ ?_ hH ?_ (hw:=by kernel_rfl);rotate_left;focus (intro wy hSw;(try dsimp only at hSw);skip;go_simp;try (with_reducible rfl))
      refine Late.tk 4 ?_ ?_ hH ?_ (hw:=by kernel_rfl);rotate_left;focus (intro wy hSw;(try dsimp only at hSw);skip;go_simp;try (with_reducible rfl))
      refine Late.tk 5 ?_ ?_ hH ?_ (hw:=by kernel_rfl);rotate_left;focus (intro wy hSw;(try dsimp only at hSw);skip;go_simp;try (with_reducible rfl))
      refine Late.tk 8 ?_ ?_ hH ?_ (hw:=by kernel_rfl);rotate_left;focus (intro wy hSw;(try dsimp only at hSw);skip;go_simp;try (with_reducible rfl))
      try simp only [Act.put,List.setIfInBounds_toArray,List.set_cons_zero,List.set_cons_succ]
      refine Late.Goes.takeT (i:=6) (v:=_) (by simp only [List.getElem?_toArray,List.getElem?_cons_succ,List.getElem?_cons_zero];rfl) (by kernel_rfl) (by kernel_rfl) (by kernel_rfl) (by kernel_rfl) (by kernel_rfl) (by exact fun _ _ _ h=>h) (yields_token (by rfl) _ rfl (b7+1) 0 rfl t (fun V hV=>token_at (HX5.out.but hV (fun h=>h)))) hH ?_
      try simp only [Act.put,List.setIfInBounds_toArray,List.set_cons_zero,List.set_cons_succ]
      refine Late.Goes.takeT (i:=9) (v:=_) (by simp only [List.getElem?_toArray,List.getElem?_cons_succ,List.getElem?_cons_zero];rfl) (by kernel_rfl) (by kernel_rfl) (by kernel_rfl) (by kernel_rfl) (by kernel_rfl) (by exact fun _ _ _ h=>h) (yields_token (by rfl) _ rfl (b7+1) 0 rfl t (fun V hV=>token_at (HX5.out.but hV (fun h=>h)))) hH ?_
      try simp only [Act.put,List.setIfInBounds_toArray,List.set_cons_zero,List.set_cons_succ]
      refine Late.Goes.one (i:=7) (by kernel_rfl) (by simp only [List.getElem?_toArray,List.getElem?_cons_succ,List.getElem?_cons_zero];rfl) (fun K hK=>?_)
      clear hH
      go_simp
      go_at_call 12
      refine ((HP5.out.new HV6.out).rights t HTK.out).mono ?_
      rintro e w7 ⟨rfl,hb7⟩
      have HV7:=Lib.hid (HV6.out.trans hb7 (fun _ _ h=>h))
      clear hb7
      refine hK.out _ _ ?_ (fun hH=>?_)
      ·exact fun _=>HV7.out
      clear hK K
      have hH:=hH rfl
      try simp only [Act.put,List.setIfInBounds_toArray,List.set_cons_zero,List.set_cons_succ]
      refine Late.Goes.one (i:=10) (by kernel_rfl) (by simp only [List.getElem?_toArray,List.getElem?_cons_succ,List.getElem?_cons_zero];rfl) (fun K hK=>?_)
      clear hH
      go_simp
      go_at_call 13
      refine ((HP5.out.new HV7.out).rrights t HTK.out).mono ?_
      rintro e w8 ⟨rfl,hb8⟩
      have HV8:=Lib.hid (HV7.out.trans hb8 (fun _ _ h=>h))
      clear hb8
      refine hK.out _ _ ?_ (fun hH=>?_)
      ·exact fun _=>HV8.out
      clear hK K
      have hH:=hH rfl
      try simp only [Act.put,List.setIfInBounds_toArray,List.set_cons_zero,List.set_cons_succ]
      refine Late.tk 11 ?_ ?_ hH ?_ (hw:=by kernel_rfl);rotate_left;focus (intro wy hSw;(try dsimp only at hSw);skip;go_simp;try (with_reducible rfl))
      refine Late.tk 12 ?_ ?_ hH ?_ (hw:=by kernel_rfl);rotate_left;focus (intro wy hSw;(try dsimp only at hSw);skip;go_simp;try (with_reducible rfl))
      try simp only [Act.put,List.setIfInBounds_toArray,List.set_cons_zero,List.set_cons_succ]
      refine Late.Goes.done (by kernel_rfl) ?_ _
      clear HV HV6 HV7 hH
      have HP8:=Lib.hid (HP5.out.new HV8.out)
      have HD8:=Lib.hid (HD5.out.but HV8.out (fun h=>h))
      have HX8:=Lib.hid (HX5.out.but HV8.out (fun h=>h))
      clear HP5 HD5 HX5 HV8
      obtain ⟨fh,hfh⟩:∃ b,b=fhas d.r.key Ks1:=⟨_,rfl⟩
      have HFH:=Lib.hid hfh
      have HGET:=Lib.hid (HP8.out.get d.r.key (by have:=HKV.out;omega))
      rw [← hfh] at HGET
      clear hfh
      obtain ⟨-,-,x12,-⟩:=deed_at HD8.out
      go_wp2_with fail
      refine HGET.out.mono ?_
      rintro e w10 ⟨rfl,hb10⟩
      have HP10:=Lib.hid (HP8.out.new hb10)
      have HD10:=Lib.hid (HD8.out.but hb10 (fun h=>h))
      have HX10:=Lib.hid (HX8.out.but hb10 (fun h=>h))
      clear hb10 x12 HGET HP8 HD8 HX8
      have HY0:=Lib.hid (Blk.new w10 45 (entB Key.zero))
      have HY1:=Lib.hid ((But.refl (fun _=>False) w10).alloc (.cells (entB Key.zero) 45))
      obtain ⟨b16,hb16⟩:∃ b,b=w10.heap.size:=⟨_,rfl⟩
      have HYT:=Lib.hid (blk_there0 (n:=7) HY0.out (by rfl))
      rw [← hb16] at HY0 HYT
      have HYX:=Lib.hid (And.intro (blk_set0 (vs:=Key.ecells (Key.ent (Key.ask T' d.r.key))) HY0.out (by rw [Key.ecells_length];rfl)) (HY1.out.trans (but_setCells b16 (Key.ecells (Key.ent (Key.ask T' d.r.key))) 0 (w10.alloc (.cells (entB Key.zero) 45))) (fun j hj e=>by omega)))
      obtain ⟨W11,hW11⟩:∃ W,W=(w10.alloc (.cells (entB Key.zero) 45)).setCells b16 0 (Key.ecells (Key.ent (Key.ask T' d.r.key))):=⟨_,rfl⟩
      rw [← hW11] at HYX
      have HYE:=Lib.hid hW11
      have HYS:=Lib.hid hb16
      clear hW11 hb16 HY0 HY1
      have HP11:=Lib.hid (HP10.out.new HYX.out.2)
      have HD11:=Lib.hid (HD10.out.but HYX.out.2 (fun h=>h))
      have HX11:=Lib.hid (HX10.out.but HYX.out.2 (fun h=>h))
      clear HP10 HD10 HX10
      obtain ⟨-,-,x12,-⟩:=deed_at HD11.out
      have HFIN:=Lib.hid (HP11.out.find (by omega) d.r.key)
      rw [← HFH.out] at HFIN
      go_wp2_with (rw [← HYS.out];refine wpList_store_mid rfl 45 _ _ rfl b16 0 (Key.ecells (Key.ent (Key.ask T' d.r.key))).toArray rfl rfl (by simp only [List.size_toArray,Key.ecells_length];exact HYT.out) (by simp only [List.size_toArray,Key.ecells_length];exact Key.entry_size) (all_oneCell_toArray (Key.ecells_one _)) ?_;change wpList _ _ _ _ _ ((w10.alloc (.cells (entB Key.zero) 45)).setCells b16 0 (Key.ecells (Key.ent (Key.ask T' d.r.key))));rw [← HYE.out])
      refine HFIN.out.mono ?_
      rintro e w12 ⟨rfl,hb12⟩
      have HP12:=Lib.hid (HP11.out.new hb12)
      have HX12:=Lib.hid (HX11.out.but hb12 (fun h=>h))
      have e4:w12.cell? ⟨b16,4,none⟩=some (.int .u64 ((Key.ent (Key.ask T' d.r.key)).ver:Int)):=(HYX.out.1.but hb12 (fun h=>h)).cell 4
      clear hb12 x12 HFIN HP11 HD11 HX11 HYX HYE HYS HYT
      cases fh with
      | true =>
       clear e4
       go_wp2_with fail
       go_roundw
       case rel=>exact ⟨k+1,_,_,_,by omega,by go_num,HP12.out,HB5.out.1,HB5.out.2,HX12.out⟩
       case measure=>simp [intOf];omega
      | false =>
       have h0:=HP12.out.absent HFH.out.symm
       rw [h0] at e4
       have e4:w12.cell? ⟨b16,4,none⟩=some (.int .u64 0):=e4
       clear h0
       go_wp2_with fail
       go_roundw
       case rel=>exact ⟨k+1,_,_,_,by omega,by go_num,HP12.out,HB5.out.1,HB5.out.2,HX12.out⟩
       case measure=>simp [intOf];omega
  ·have hkn:k=n:=by omega
   subst hkn
   clear HX HX3 HP3
   by_cases h1:0≤id
   ·by_cases h2:id < 64
    ·by_cases h3:0 < gen
     ·have h3i:(0:Int) < (gen:Int):=by omega
      have HID2:=Lib.hid (And.intro h1 (And.intro h2 h3))
      have HPM:=Lib.hid ((HP.out.more (i:=k) (by omega)).more (i:=k+1) (by omega))
      have HCH:=Lib.hid HP.out.charge
      go_wp2_with fail
      refine (HPM.out.two.recharge (by rw [HBG.out.1];exact ⟨HID2.out.1,HID2.out.2.1⟩) (by rw [HBG.out.2];exact HID2.out.2.2) ⟨HCH.out.2.1,by have:=HCH.out.2.2;omega⟩).mono ?_
      rintro e w4 ⟨rfl,h4⟩
      have HT4:=Lib.hid h4
      clear h4
      go_wp2_with fail
      refine (HT4.out.rrecharge (by have:=HP.out.cnt.2;omega) HP.out.toks HP.out.okx (by rw [HBG.out.1];exact ⟨HID2.out.1,HID2.out.2.1⟩) (by rw [HBG.out.2];exact ⟨HID2.out.2.2,HID.out.2⟩)).mono ?_
      rintro e w5 ⟨rfl,h5⟩
      rw [← HCH.out.1] at h5
      have HP5:=Lib.hid (Pair.mk h5 HP.out.rep)
      clear h5 HT4
      go_wp2_with fail
      refine (HP5.out.same (by omega)).mono ?_
      rintro e w6 ⟨rfl,hb6⟩
      have HB6:=Lib.hid (HP5.out.two.but.trans hb6 (fun _ _ h=>h))
      clear hb6
      go_wp2_with fail
      go_ret
      exact ⟨rfl,HB6.out⟩
     ·have h3i:¬ (0:Int) < (gen:Int):=by omega
      go_wp2_with fail
      go_ret
      exact ⟨rfl,HP.out.two.but⟩
    ·go_wp2_with fail
     go_ret
     exact ⟨rfl,HP.out.two.but⟩
   ·go_wp2_with fail
    go_ret
    exact ⟨rfl,HP.out.two.but⟩
end Go.Proofs.YtgjofinbdigmcaaGreat.Buk

/- Contract of the law's same. -/
import Derived.Test.YtgjofinbdigmcaaGreatG38
import Derived.Test.YtgjofinbdigmcaaGreatG18
set_option linter.unusedSimpArgs false
set_option linter.unusedVariables false
set_option maxHeartbeats 4000000
set_option maxRecDepth 100000
namespace Go.Proofs.YtgjofinbdigmcaaGreat.Buk
open Go.Proofs.YtgjofinbdigmcaaGreat.Mem
open Go.ChangeShapes Go.WideShapes Go.ChangeAt Go.RowKit
section
variable {w w':World} {rp i:Nat} {kv tv:Value} {s:Bl} {B:Bk} {T:Tab} {m:List It} {Ks:List RK}
theorem RM.recs (h:RM w rp kv tv B Ks) (hi:∀ r ∈ B.toks.map (tokR B.id B.gen),Rec.Is r):∃ a c,tv = .slice a B.toks.length c∧Rec.Recs w a (B.toks.map (tokR B.id B.gen)):=by
 rcases h.tform with ⟨h0,a,c,hv⟩|⟨g,c,hv⟩
 ·refine ⟨a,c,by rw [hv,h0];rfl,?_⟩
  rw [h0]
  exact Rec.Recs.nil w a
 ·refine ⟨_,c,hv,hi,fun hn=>⟨g,0,rfl,h.toks.lt g (by rw [hv];rfl) |>.2,fun j hj k u hu=>?_⟩⟩
  have hj2:j < B.toks.length:=by simpa using hj
  have hk:k < 14:=by
   obtain ⟨h1,_⟩:=Array.getElem?_eq_some_iff.1 hu
   rw [List.getElem_map] at h1
   exact h1
  have h1:=h.tcell hv hj2 hk
  rw [Nat.zero_add,h1]
  rw [List.getElem_map] at hu
  rw [← hu,← Array.getElem?_toList]
  rfl
theorem RM.with_bytes (h:RM w rp kv tv B Ks) (x:Int):RM w rp kv tv { B with bytes:=x } Ks:=⟨h.blk,h.keys,h.toks⟩
theorem spot_neq (p:Spt) (w:World):(binOp .neq 37 (.agg #[.int .i64 p.1,.int .i64 p.2.1,.int .i64 p.2.2]) (.agg #[.int .i64 p.1,.int .i64 p.2.1,.int .i64 p.2.2])).run Tryz.prog w = .ok (.bool false) w:=by
 have h1:Tryz.prog.stoodInHeld 37=false:=by kernel_rfl
 have ki:(isAgg 3).run Tryz.prog w = .ok false w:=by simp [isAgg,run_underlying Tryz.underlying3]
 have h:(Op.equal 37 (.agg #[.int .i64 p.1,.int .i64 p.2.1,.int .i64 p.2.2]) (.agg #[.int .i64 p.1,.int .i64 p.2.1,.int .i64 p.2.2])).run Tryz.prog w = .ok ((p.1 == p.1) && ((p.2.1 == p.2.1) && ((p.2.2 == p.2.2) && true))) w:=by
  unfold Op.equal
  rw [show Op.maxDepth=9997+1+1+1 from rfl,run_equalIn_struct _ _ _ _ _ (by kernel_rfl) h1]
  obtain ⟨fs,hfs⟩:∃ fs,(Tryz.prog.fieldsOf 37).toList=fs:=⟨_,rfl⟩
  rw [hfs]
  simp [Program.fieldsOf,Tryz.underlying37] at hfs
  subst hfs
  refine Rec.eq_field (by decide) (Rec.part_one ki rfl) (Rec.part_one ki rfl) (run_equalIn_int _ _ _ _ _ _ _ Tryz.underlying3) ?_
  refine Rec.eq_field (by decide) (Rec.part_one ki rfl) (Rec.part_one ki rfl) (run_equalIn_int _ _ _ _ _ _ _ Tryz.underlying3) ?_
  exact Rec.eq_field (by decide) (Rec.part_one ki rfl) (Rec.part_one ki rfl) (run_equalIn_int _ _ _ _ _ _ _ Tryz.underlying3) Rec.eq_end
 simp [binOp,h]
theorem spot_size:(Tryz.prog.info? 37).map (·.size)=some 3:=by kernel_rfl
theorem yields_spot {ops:Array Oper} {S:World→Prop} {op:Oper} {a:Act} (hw:Region.wanted op (yielded ops a.tmps)=true) (x:Operand) (ho:op.op = .load 37 x) (b o:Nat) (hx:a.eval x = .pointer (some ⟨b,o,none⟩)) (p:Spt) (hS:∀ w,S w→w.rangeAt b o [.int .i64 p.1,.int .i64 p.2.1,.int .i64 p.2.2]):YieldsIf Tryz.prog ops S op (.agg #[.int .i64 p.1,.int .i64 p.2.1,.int .i64 p.2.2]) a :=
 yieldsIf_load_mid hw _ x ho b o hx [.int .i64 p.1,.int .i64 p.2.1,.int .i64 p.2.2] _ hS Tryz.underlying37 rfl spot_size
theorem yields_spotneq {ops:Array Oper} {S:World→Prop} {op:Oper} {a:Act} (hw:Region.wanted op (yielded ops a.tmps)=true) (x y:Operand) (t2:TypeId) (ho:op.op = .binOp .neq 37 x y t2) (p:Spt) (hx:a.eval x = .agg #[.int .i64 p.1,.int .i64 p.2.1,.int .i64 p.2.2]) (hy:a.eval y = .agg #[.int .i64 p.1,.int .i64 p.2.1,.int .i64 p.2.2]):YieldsIf Tryz.prog ops S op (.bool false) a :=
 .inl ⟨hw,fun w _=>by
  have h2:=spot_neq p w
  have h3:(eqGuard .neq 37 x y (.agg #[.int .i64 p.1,.int .i64 p.2.1,.int .i64 p.2.2]) (.agg #[.int .i64 p.1,.int .i64 p.2.1,.int .i64 p.2.2])).run Tryz.prog w = .ok () w:=run_eqGuard_agg _ _ _ _ _ _ _ (by kernel_rfl)
  unfold execOp
  simp only [ho,hx,hy]
  simp only [Sem.run_bind,h3,h2,Result.andThen_ok,Sem.run_pure]⟩
theorem yields_recneq {ops:Array Oper} {S:World→Prop} {op:Oper} {a:Act} (hw:Region.wanted op (yielded ops a.tmps)=true) (x y:Operand) (t2:TypeId) (ho:op.op = .binOp .neq 35 x y t2) (r:Rcd) (hx:a.eval x=Rec.rv r) (hy:a.eval y=Rec.rv r):YieldsIf Tryz.prog ops S op (.bool false) a :=
 .inl ⟨hw,fun w _=>by
  have h2:=Rec.rec_neq r r w
  rw [show decide (r=r)=true from decide_eq_true rfl] at h2
  have h3:(eqGuard .neq 35 x y (Rec.rv r) (Rec.rv r)).run Tryz.prog w = .ok () w:=run_eqGuard_agg _ _ _ _ _ _ _ (by kernel_rfl)
  unfold execOp
  simp only [ho,hx,hy]
  simp only [Sem.run_bind,h3,h2,Result.andThen_ok,Sem.run_pure,Bool.not_true]⟩
theorem same_law (h:BM w s B T m i) (o:Ok B T m i) (g:RM w rp kv tv B Ks) (hrep:Rep T Ks) (hl:Ks.length≤400) (hok:∀ x ∈ Ks,OkX x) :
  Calls Tryz.prog 11 #[.pointer (some ⟨s.p,0,none⟩),.pointer (some ⟨rp,0,none⟩)] w fun e w'=>e = .returned (.bool true)∧But (fun _=>False) w w':=by
 have HLE:=Lib.hid (fun (L:List Ent) (hp:L.Perm (all T)) (hr:Key.rises L)=>hrep.ents h.key.good hp hr)
 have hcnt:=hrep.cnt h.key.good
 have hbyt:B.bytes=kbytes Ks:=o.bytes.trans (hrep.tot h.key.good)
 have hti:=tokR_is o.id o.gen h.tok.good
 obtain ⟨N,hN⟩:∃ N,N=Ks.length:=⟨_,rfl⟩
 have HNN:=Lib.hid hN
 have hNL:N≤400:=by omega
 have HKEYS:=Lib.hid (fun V (hV:But (fun _=>False) w V)=>show Calls Tryz.prog 19 #[.pointer (some ⟨s.p,0,none⟩)] V fun e w'=>e = .returned (.int .i64 (N:Int))∧But (fun _=>False) V w' from by
  have:=keys_any (h.new hV)
  rw [hcnt,← hN] at this
  exact this)
 have HBYT:=Lib.hid (fun V (hV:But (fun _=>False) w V)=>bytes_any (h.new hV))
 have HRBY:=Lib.hid (fun V (hV:But (fun _=>False) w V)=>show Calls Tryz.prog 42 #[.pointer (some ⟨rp,0,none⟩)] V fun e w'=>e = .returned (.int .i64 B.bytes)∧But (fun _=>False) V w' from by
  rw [hbyt]
  exact rbytes_any (g.new hV) (by omega) (fun x hx=>⟨(hok x hx).key.2,(hok x hx).val⟩))
 have HCHA:=Lib.hid (fun V (hV:But (fun _=>False) w V)=>charged_any (h.new hV))
 have HMET:=Lib.hid (fun V (hV:But (fun _=>False) w V)=>meta_any (h.new hV))
 have HRME:=Lib.hid (fun V (hV:But (fun _=>False) w V)=>rmeta_any (g.new hV))
 have HTOK:=Lib.hid (fun V (hV:But (fun _=>False) w V)=>tokens_any (h.new hV) o)
 obtain ⟨at0,ct0,htv,_⟩:=g.recs hti
 obtain ⟨ak,ck,hkv,_⟩:=own_form g.keys
 subst htv
 subst hkv
 rw [← hN] at g
 have HREC:=Lib.hid (fun V (hV:But (fun _=>False) w V)=>show Rec.Recs V at0 (B.toks.map (tokR B.id B.gen)) from by
  obtain ⟨a,c,h1,h2⟩:=(g.new hV).recs hti
  injection h1 with h3
  rw [h3]
  exact h2)
 have HG:=Lib.hid (fun V (hV:But (fun _=>False) w V)=>g.new hV)
 have HENT:=Lib.hid (entries_any h)
 have HOK:=Lib.hid hok
 have htl:B.toks.length≤100:=h.tok.good.len
 obtain ⟨nt,hnt⟩:∃ n,n=B.toks.length:=⟨_,rfl⟩
 have HC:=Lib.hid (fun V (hV:But (fun _=>False) w V)=>show V.cell? ⟨rp,7,none⟩=some (.slice ak N ck)∧V.cell? ⟨rp,8,none⟩=some (.slice at0 nt ct0)∧V.cell? ⟨rp,9,none⟩=some (.int .i64 B.charged) from ⟨(g.new hV).blk.cell 7,by rw [hnt];exact (g.new hV).blk.cell 8,(g.new hV).blk.cell 9⟩)
 rw [← hnt] at htl HTOK
 have HNT:=Lib.hid hnt
 clear h o g hrep hl hok hcnt hbyt hti hN hnt
 go_enter Tryz.func11,Tryz.ntmps11
 go_wp2_with fail
 refine HENT.out.mono ?_
 rintro e w1 ⟨a,cap,L,rfl,hp,hr,hE,hb1,_⟩
 have hLK:=HLE.out L hp hr
 subst hLK
 rw [List.length_map,← HNN.out]
 have HE:=Lib.hid hE
 have HB1:=Lib.hid hb1
 clear hp hr hE hb1
 go_wp2_with fail
 refine Late.region_goes (fun V=>But (fun _=>False) w1 V) (fun _=>false) (by kernel_rfl) ?_ (fun hH=>?_)
 ·exact (But.refl _ w1).drew
 refine Late.tk 0 ?_ ?_ hH ?_ (hw:=by kernel_rfl);rotate_left;focus (intro wy hSw;(try dsimp only at hSw);obtain ⟨k7,k8,k9⟩:=HC.out wy (HB1.out.trans hSw (fun _ _ h=>h));go_simp;try (with_reducible rfl))
 refine Late.tk 1 ?_ ?_ hH ?_ (hw:=by kernel_rfl);rotate_left;focus (intro wy hSw;(try dsimp only at hSw);obtain ⟨k7,k8,k9⟩:=HC.out wy (HB1.out.trans hSw (fun _ _ h=>h));go_simp;try (with_reducible rfl))
 refine Late.tk 2 ?_ ?_ hH ?_ (hw:=by kernel_rfl);rotate_left;focus (intro wy hSw;(try dsimp only at hSw);obtain ⟨k7,k8,k9⟩:=HC.out wy (HB1.out.trans hSw (fun _ _ h=>h));go_simp;try (with_reducible rfl))
 refine Late.tk 3 ?_ ?_ hH ?_ (hw:=by kernel_rfl);rotate_left;focus (intro wy hSw;(try dsimp only at hSw);obtain ⟨k7,k8,k9⟩:=HC.out wy (HB1.out.trans hSw (fun _ _ h=>h));go_simp;try (with_reducible rfl))
 refine Late.tk 4 ?_ ?_ hH ?_ (hw:=by kernel_rfl);rotate_left;focus (intro wy hSw;(try dsimp only at hSw);obtain ⟨k7,k8,k9⟩:=HC.out wy (HB1.out.trans hSw (fun _ _ h=>h));go_simp;try (with_reducible rfl))
 refine Late.tk 5 ?_ ?_ hH ?_ (hw:=by kernel_rfl);rotate_left;focus (intro wy hSw;(try dsimp only at hSw);obtain ⟨k7,k8,k9⟩:=HC.out wy (HB1.out.trans hSw (fun _ _ h=>h));go_simp;try (with_reducible rfl))
 refine Late.tk 6 ?_ ?_ hH ?_ (hw:=by kernel_rfl);rotate_left;focus (intro wy hSw;(try dsimp only at hSw);obtain ⟨k7,k8,k9⟩:=HC.out wy (HB1.out.trans hSw (fun _ _ h=>h));go_simp;try (with_reducible rfl))
 refine Late.tk 7 ?_ ?_ hH ?_ (hw:=by kernel_rfl);rotate_left;focus (intro wy hSw;(try dsimp only at hSw);obtain ⟨k7,k8,k9⟩:=HC.out wy (HB1.out.trans hSw (fun _ _ h=>h));go_simp;try (with_reducible rfl))
 refine Late.tk 8 ?_ ?_ hH ?_ (hw:=by kernel_rfl);rotate_left;focus (intro wy hSw;(try dsimp only at hSw);obtain ⟨k7,k8,k9⟩:=HC.out wy (HB1.out.trans hSw (fun _ _ h=>h));go_simp;try (with_reducible rfl))
 refine Late.tk 9 ?_ ?_ hH ?_ (hw:=by kernel_rfl);rotate_left;focus (intro wy hSw;(try dsimp only at hSw);obtain ⟨k7,k8,k9⟩:=HC.out wy (HB1.out.trans hSw (fun _ _ h=>h));go_simp;try (with_reducible rfl))
 refine Late.tk 11 ?_ ?_ hH ?_ (hw:=by kernel_rfl);rotate_left;focus (intro wy hSw;(try dsimp only at hSw);obtain ⟨k7,k8,k9⟩:=HC.out wy (HB1.out.trans hSw (fun _ _ h=>h));go_simp;try (with_reducible rfl))
 refine Late.tk 12 ?_ ?_ hH ?_ (hw:=by kernel_rfl);rotate_left;focus (intro wy hSw;(try dsimp only at hSw);obtain ⟨k7,k8,k9⟩:=HC.out wy (HB1.out.trans hSw (fun _ _ h=>h));go_simp;try (with_reducible rfl))
 refine Late.tk 13 ?_ ?_ hH ?_ (hw:=by kernel_rfl);rotate_left;focus (intro wy hSw;(try dsimp only at hSw);obtain ⟨k7,k8,k9⟩:=HC.out wy (HB1.out.trans hSw (fun _ _ h=>h));go_simp;try (with_reducible rfl))
 refine Late.tk 14 ?_ ?_ hH ?_ (hw:=by kernel_rfl);rotate_left;focus (intro wy hSw;(try dsimp only at hSw);obtain ⟨k7,k8,k9⟩:=HC.out wy (HB1.out.trans hSw (fun _ _ h=>h));go_simp;try (with_reducible rfl))
 refine Late.tk 15 ?_ ?_ hH ?_ (hw:=by kernel_rfl);rotate_left;focus (intro wy hSw;(try dsimp only at hSw);obtain ⟨k7,k8,k9⟩:=HC.out wy (HB1.out.trans hSw (fun _ _ h=>h));go_simp;try (with_reducible rfl))
 try simp only [Act.put,List.setIfInBounds_toArray,List.set_cons_zero,List.set_cons_succ]
 have HV1:=Lib.hid hH
 refine Late.Goes.one (i:=10) (by kernel_rfl) (by simp only [List.getElem?_toArray,List.getElem?_cons_succ,List.getElem?_cons_zero];rfl) (fun K hK=>?_)
 clear hH
 go_simp
 go_at_call 19
 refine (HKEYS.out _ (HB1.out.trans HV1.out (fun _ _ h=>h))).mono ?_
 rintro e w2 ⟨rfl,hb2⟩
 have HV2:=Lib.hid (HV1.out.trans hb2 (fun _ _ h=>h))
 clear hb2
 refine hK.out _ _ ?_ (fun hH=>?_)
 ·exact fun _=>HV2.out
 clear hK K
 have hH:=hH rfl
 try simp only [Act.put,List.setIfInBounds_toArray,List.set_cons_zero,List.set_cons_succ]
 refine Late.tk 16 ?_ ?_ hH ?_ (hw:=by kernel_rfl);rotate_left;focus (intro wy hSw;(try dsimp only at hSw);obtain ⟨k7,k8,k9⟩:=HC.out wy (HB1.out.trans hSw (fun _ _ h=>h));go_simp;try (with_reducible rfl))
 refine Late.tk 17 ?_ ?_ hH ?_ (hw:=by kernel_rfl);rotate_left;focus (intro wy hSw;(try dsimp only at hSw);obtain ⟨k7,k8,k9⟩:=HC.out wy (HB1.out.trans hSw (fun _ _ h=>h));go_simp;try (with_reducible rfl))
 refine Late.tk 18 ?_ ?_ hH ?_ (hw:=by kernel_rfl);rotate_left;focus (intro wy hSw;(try dsimp only at hSw);obtain ⟨k7,k8,k9⟩:=HC.out wy (HB1.out.trans hSw (fun _ _ h=>h));go_simp;try (with_reducible rfl))
 refine Late.tk 19 ?_ ?_ hH ?_ (hw:=by kernel_rfl);rotate_left;focus (intro wy hSw;(try dsimp only at hSw);obtain ⟨k7,k8,k9⟩:=HC.out wy (HB1.out.trans hSw (fun _ _ h=>h));go_simp;try (with_reducible rfl))
 refine Late.tk 21 ?_ ?_ hH ?_ (hw:=by kernel_rfl);rotate_left;focus (intro wy hSw;(try dsimp only at hSw);obtain ⟨k7,k8,k9⟩:=HC.out wy (HB1.out.trans hSw (fun _ _ h=>h));go_simp;try (with_reducible rfl))
 try simp only [Act.put,List.setIfInBounds_toArray,List.set_cons_zero,List.set_cons_succ]
 refine Late.Goes.one (i:=20) (by kernel_rfl) (by simp only [List.getElem?_toArray,List.getElem?_cons_succ,List.getElem?_cons_zero];rfl) (fun K hK=>?_)
 clear hH
 go_simp
 go_at_call 20
 refine (HBYT.out _ (HB1.out.trans HV2.out (fun _ _ h=>h))).mono ?_
 rintro e w3 ⟨rfl,hbw3⟩
 subst hbw3
 have HV3:=Lib.hid HV2.out
 refine hK.out _ _ ?_ (fun hH=>?_)
 ·exact fun _=>HV3.out
 clear hK K
 have hH:=hH rfl
 try simp only [Act.put,List.setIfInBounds_toArray,List.set_cons_zero,List.set_cons_succ]
 refine Late.Goes.one (i:=22) (by kernel_rfl) (by simp only [List.getElem?_toArray,List.getElem?_cons_succ,List.getElem?_cons_zero];rfl) (fun K hK=>?_)
 clear hH
 go_simp
 go_at_call 42
 refine (HRBY.out _ (HB1.out.trans HV3.out (fun _ _ h=>h))).mono ?_
 rintro e w4 ⟨rfl,hbw4⟩
 have HV4:=Lib.hid (HV3.out.trans hbw4 (fun _ _ h=>h))
 clear hbw4
 refine hK.out _ _ ?_ (fun hH=>?_)
 ·exact fun _=>HV4.out
 clear hK K
 have hH:=hH rfl
 try simp only [Act.put,List.setIfInBounds_toArray,List.set_cons_zero,List.set_cons_succ]
 refine Late.tk 23 ?_ ?_ hH ?_ (hw:=by kernel_rfl);rotate_left;focus (intro wy hSw;(try dsimp only at hSw);obtain ⟨k7,k8,k9⟩:=HC.out wy (HB1.out.trans hSw (fun _ _ h=>h));go_simp;try (with_reducible rfl))
 refine Late.tk 24 ?_ ?_ hH ?_ (hw:=by kernel_rfl);rotate_left;focus (intro wy hSw;(try dsimp only at hSw);obtain ⟨k7,k8,k9⟩:=HC.out wy (HB1.out.trans hSw (fun _ _ h=>h));go_simp;try (with_reducible rfl))
 refine Late.tk 25 ?_ ?_ hH ?_ (hw:=by kernel_rfl);rotate_left;focus (intro wy hSw;(try dsimp only at hSw);obtain ⟨k7,k8,k9⟩:=HC.out wy (HB1.out.trans hSw (fun _ _ h=>h));go_simp;try (with_reducible rfl))
 refine Late.tk 26 ?_ ?_ hH ?_ (hw:=by kernel_rfl);rotate_left;focus (intro wy hSw;(try dsimp only at hSw);obtain ⟨k7,k8,k9⟩:=HC.out wy (HB1.out.trans hSw (fun _ _ h=>h));go_simp;try (with_reducible rfl))
 refine Late.tk 28 ?_ ?_ hH ?_ (hw:=by kernel_rfl);rotate_left;focus (intro wy hSw;(try dsimp only at hSw);obtain ⟨k7,k8,k9⟩:=HC.out wy (HB1.out.trans hSw (fun _ _ h=>h));go_simp;try (with_reducible rfl))
 refine Late.tk 29 ?_ ?_ hH ?_ (hw:=by kernel_rfl);rotate_left;focus (intro wy hSw;(try dsimp only at hSw);obtain ⟨k7,k8,k9⟩:=HC.out wy (HB1.out.trans hSw (fun _ _ h=>h));go_simp;try (with_reducible rfl))
 refine Late.tk 30 ?_ ?_ hH ?_ (hw:=by kernel_rfl);rotate_left;focus (intro wy hSw;(try dsimp only at hSw);obtain ⟨k7,k8,k9⟩:=HC.out wy (HB1.out.trans hSw (fun _ _ h=>h));go_simp;try (with_reducible rfl))
 refine Late.tk 31 ?_ ?_ hH ?_ (hw:=by kernel_rfl);rotate_left;focus (intro wy hSw;(try dsimp only at hSw);obtain ⟨k7,k8,k9⟩:=HC.out wy (HB1.out.trans hSw (fun _ _ h=>h));go_simp;try (with_reducible rfl))
 try simp only [Act.put,List.setIfInBounds_toArray,List.set_cons_zero,List.set_cons_succ]
 refine Late.Goes.one (i:=27) (by kernel_rfl) (by simp only [List.getElem?_toArray,List.getElem?_cons_succ,List.getElem?_cons_zero];rfl) (fun K hK=>?_)
 clear hH
 go_simp
 go_at_call 43
 refine (HCHA.out _ (HB1.out.trans HV4.out (fun _ _ h=>h))).mono ?_
 rintro e w5 ⟨rfl,hbw5⟩
 subst hbw5
 have HV5:=Lib.hid HV4.out
 refine hK.out _ _ ?_ (fun hH=>?_)
 ·exact fun _=>HV5.out
 clear hK K
 have hH:=hH rfl
 try simp only [Act.put,List.setIfInBounds_toArray,List.set_cons_zero,List.set_cons_succ]
 refine Late.tk 32 ?_ ?_ hH ?_ (hw:=by kernel_rfl);rotate_left;focus (intro wy hSw;(try dsimp only at hSw);obtain ⟨k7,k8,k9⟩:=HC.out wy (HB1.out.trans hSw (fun _ _ h=>h));go_simp;try (with_reducible rfl))
 refine Late.tk 33 ?_ ?_ hH ?_ (hw:=by kernel_rfl);rotate_left;focus (intro wy hSw;(try dsimp only at hSw);obtain ⟨k7,k8,k9⟩:=HC.out wy (HB1.out.trans hSw (fun _ _ h=>h));go_simp;try (with_reducible rfl))
 refine Late.tk 34 ?_ ?_ hH ?_ (hw:=by kernel_rfl);rotate_left;focus (intro wy hSw;(try dsimp only at hSw);obtain ⟨k7,k8,k9⟩:=HC.out wy (HB1.out.trans hSw (fun _ _ h=>h));go_simp;try (with_reducible rfl))
 refine Late.tk 35 ?_ ?_ hH ?_ (hw:=by kernel_rfl);rotate_left;focus (intro wy hSw;(try dsimp only at hSw);obtain ⟨k7,k8,k9⟩:=HC.out wy (HB1.out.trans hSw (fun _ _ h=>h));go_simp;try (with_reducible rfl))
 refine Late.tk 37 ?_ ?_ hH ?_ (hw:=by kernel_rfl);rotate_left;focus (intro wy hSw;(try dsimp only at hSw);obtain ⟨k7,k8,k9⟩:=HC.out wy (HB1.out.trans hSw (fun _ _ h=>h));go_simp;try (with_reducible rfl))
 try simp only [Act.put,List.setIfInBounds_toArray,List.set_cons_zero,List.set_cons_succ]
 refine Late.Goes.one (i:=36) (by kernel_rfl) (by simp only [List.getElem?_toArray,List.getElem?_cons_succ,List.getElem?_cons_zero];rfl) (fun K hK=>?_)
 clear hH
 go_simp
 go_at_call 18
 refine (HMET.out _ (HB1.out.trans HV5.out (fun _ _ h=>h))).mono ?_
 rintro e w6 ⟨rfl,hbw6⟩
 have HV6:=Lib.hid (HV5.out.trans hbw6 (fun _ _ h=>h))
 clear hbw6
 refine hK.out _ _ ?_ (fun hH=>?_)
 ·exact fun _=>HV6.out
 clear hK K
 have hH:=hH rfl
 try simp only [Act.put,List.setIfInBounds_toArray,List.set_cons_zero,List.set_cons_succ]
 refine Late.Goes.one (i:=38) (by kernel_rfl) (by simp only [List.getElem?_toArray,List.getElem?_cons_succ,List.getElem?_cons_zero];rfl) (fun K hK=>?_)
 clear hH
 go_simp
 go_at_call 44
 refine (HRME.out _ (HB1.out.trans HV6.out (fun _ _ h=>h))).mono ?_
 rintro e w7 ⟨rfl,hbw7⟩
 have HV7:=Lib.hid (HV6.out.trans hbw7 (fun _ _ h=>h))
 clear hbw7
 refine hK.out _ _ ?_ (fun hH=>?_)
 ·exact fun _=>HV7.out
 clear hK K
 have hH:=hH rfl
 try simp only [Act.put,List.setIfInBounds_toArray,List.set_cons_zero,List.set_cons_succ]
 refine Late.Goes.takeT (i:=39) (v:=_) (by simp only [List.getElem?_toArray,List.getElem?_cons_succ,List.getElem?_cons_zero];rfl) (by kernel_rfl) (by kernel_rfl) (by kernel_rfl) (by kernel_rfl) (by kernel_rfl) (by exact fun _ _ _ h=>h) (yields_recneq (by rfl) _ _ _ rfl (metaR B) rfl rfl) hH ?_
 try simp only [Act.put,List.setIfInBounds_toArray,List.set_cons_zero,List.set_cons_succ]
 refine Late.tk 40 ?_ ?_ hH ?_ (hw:=by kernel_rfl);rotate_left;focus (intro wy hSw;(try dsimp only at hSw);obtain ⟨k7,k8,k9⟩:=HC.out wy (HB1.out.trans hSw (fun _ _ h=>h));go_simp;try (with_reducible rfl))
 refine Late.tk 41 ?_ ?_ hH ?_ (hw:=by kernel_rfl);rotate_left;focus (intro wy hSw;(try dsimp only at hSw);obtain ⟨k7,k8,k9⟩:=HC.out wy (HB1.out.trans hSw (fun _ _ h=>h));go_simp;try (with_reducible rfl))
 refine Late.tk 42 ?_ ?_ hH ?_ (hw:=by kernel_rfl);rotate_left;focus (intro wy hSw;(try dsimp only at hSw);obtain ⟨k7,k8,k9⟩:=HC.out wy (HB1.out.trans hSw (fun _ _ h=>h));go_simp;try (with_reducible rfl))
 refine Late.tk 44 ?_ ?_ hH ?_ (hw:=by kernel_rfl);rotate_left;focus (intro wy hSw;(try dsimp only at hSw);obtain ⟨k7,k8,k9⟩:=HC.out wy (HB1.out.trans hSw (fun _ _ h=>h));go_simp;try (with_reducible rfl))
 refine Late.tk 45 ?_ ?_ hH ?_ (hw:=by kernel_rfl);rotate_left;focus (intro wy hSw;(try dsimp only at hSw);obtain ⟨k7,k8,k9⟩:=HC.out wy (HB1.out.trans hSw (fun _ _ h=>h));go_simp;try (with_reducible rfl))
 refine Late.tk 46 ?_ ?_ hH ?_ (hw:=by kernel_rfl);rotate_left;focus (intro wy hSw;(try dsimp only at hSw);obtain ⟨k7,k8,k9⟩:=HC.out wy (HB1.out.trans hSw (fun _ _ h=>h));go_simp;try (with_reducible rfl))
 refine Late.tk 47 ?_ ?_ hH ?_ (hw:=by kernel_rfl);rotate_left;focus (intro wy hSw;(try dsimp only at hSw);obtain ⟨k7,k8,k9⟩:=HC.out wy (HB1.out.trans hSw (fun _ _ h=>h));go_simp;try (with_reducible rfl))
 try simp only [Act.put,List.setIfInBounds_toArray,List.set_cons_zero,List.set_cons_succ]
 refine Late.Goes.one (i:=43) (by kernel_rfl) (by simp only [List.getElem?_toArray,List.getElem?_cons_succ,List.getElem?_cons_zero];rfl) (fun K hK=>?_)
 clear hH
 go_simp
 go_at_call 46
 refine (HTOK.out _ (HB1.out.trans HV7.out (fun _ _ h=>h))).mono ?_
 rintro e w8 ⟨a2,c2,rfl,hrec,_,hb8⟩
 have HR8:=Lib.hid hrec
 have HV8:=Lib.hid (HV7.out.trans hb8 (fun _ _ h=>h))
 clear hrec hb8
 refine hK.out _ _ ?_ (fun hH=>?_)
 ·exact fun _=>HV8.out
 clear hK K
 have hH:=hH rfl
 try simp only [Act.put,List.setIfInBounds_toArray,List.set_cons_zero,List.set_cons_succ]
 refine Late.Goes.one (i:=48) (by kernel_rfl) (by simp only [List.getElem?_toArray,List.getElem?_cons_succ,List.getElem?_cons_zero];rfl) (fun K hK=>?_)
 clear hH
 go_simp
 go_at_call 45
 have hsm:=Rec.same_any a2 at0 c2 ct0 _ _ _ HR8.out (HREC.out _ (HB1.out.trans HV8.out (fun _ _ h=>h))) (by rw [List.length_map,← HNT.out];omega) (by rw [List.length_map,← HNT.out];omega)
 rw [List.length_map,← HNT.out,decide_eq_true rfl] at hsm
 refine hsm.mono ?_
 clear hsm
 rintro e w9 ⟨rfl,n9,hw9⟩
 have HV9:=Lib.hid (show But (fun _=>False) w1 w9 from by rw [hw9];exact HV8.out.drewN n9)
 clear hw9
 refine hK.out _ _ ?_ (fun hH=>?_)
 ·exact fun _=>HV9.out
 clear hK K
 have hH:=hH rfl
 try simp only [Act.put,List.setIfInBounds_toArray,List.set_cons_zero,List.set_cons_succ]
 refine Late.tk 49 ?_ ?_ hH ?_ (hw:=by kernel_rfl);rotate_left;focus (intro wy hSw;(try dsimp only at hSw);obtain ⟨k7,k8,k9⟩:=HC.out wy (HB1.out.trans hSw (fun _ _ h=>h));go_simp;try (with_reducible rfl))
 refine Late.tk 50 ?_ ?_ hH ?_ (hw:=by kernel_rfl);rotate_left;focus (intro wy hSw;(try dsimp only at hSw);obtain ⟨k7,k8,k9⟩:=HC.out wy (HB1.out.trans hSw (fun _ _ h=>h));go_simp;try (with_reducible rfl))
 try simp only [Act.put,List.setIfInBounds_toArray,List.set_cons_zero,List.set_cons_succ]
 refine Late.Goes.done (by kernel_rfl) ?_ _
 have HVA:=Lib.hid hH
 clear hH
 obtain ⟨ge,hae,hglt,hcel⟩:=HE.out.at_
 subst hae
 have HEC:=Lib.hid (fun V (hV:But (fun _=>False) w1 V) j (hj:j < Ks.length) k (hk:k < 7)=>show V.cell? ⟨ge,j * 7+k,none⟩=(Key.ecells (entK Ks[j]))[k]? from by
  have h1:=hcel j (by rw [List.length_map];exact hj) k hk
  rw [List.getElem_map] at h1
  rw [← h1]
  exact hV.cell hglt (fun h=>h))
 have HKC:=Lib.hid (fun V (hV:But (fun _=>False) w1 V) j (hj:j < Ks.length)=>show ∃ g,ak=some ⟨g,0,none⟩∧∀ k,k < 7→V.cell? ⟨g,j * 7+k,none⟩=(kcs Ks[j])[k]? from by
  have hr:=HG.out V (HB1.out.trans hV (fun _ _ h=>h))
  rcases hr.kform with ⟨h0,_⟩|⟨g,c,hv⟩
  ·rw [h0] at hj;exact absurd hj (by simp)
  ·refine ⟨g,?_,fun k hk=>hr.kcell hv hj hk⟩
   injection hv)
 have hVA:=HVA.out
 clear hcel hglt
 go_wp2_with fail
 go_loopw [6] (fun v wr=>∃ k:Nat,k≤N∧v = .int .i64 (k:Int)∧But (fun _=>False) w1 wr) (fun v _=>N - (intOf v).toNat)
 case atStart=>exact ⟨0,Nat.zero_le _,rfl,hVA⟩
 case round =>
  obtain ⟨k,hk,rfl,hbw⟩:=hrel
  have k7:=(HC.out _ (HB1.out.trans hbw (fun _ _ h=>h))).1
  have HBW:=Lib.hid hbw
  by_cases hlt:k < N
  ·have hki:(k:Int) < (N:Int):=by omega
   have hkK:k < Ks.length:=by rw [← HNN.out];exact hlt
   obtain ⟨g,hak,hcc⟩:=HKC.out _ hbw k hkK
   have hce:=fun V hV=>HEC.out V hV k hkK
   have HXK:=Lib.hid (HOK.out _ (List.getElem_mem hkK))
   obtain ⟨x,hx⟩:∃ x,x=Ks[k]:=⟨_,rfl⟩
   rw [← hx] at hcc hce HXK
   subst hak
   have e0:wr.cell? ⟨g,k * 7,none⟩=some (.string x.key):=hcc 0 (by omega)
   have e1:wr.cell? ⟨g,k * 7+1,none⟩=some (.string x.val):=hcc 1 (by omega)
   have e2:wr.cell? ⟨g,k * 7+2,none⟩=some (.int .u64 (x.ver:Int)):=hcc 2 (by omega)
   have e3:wr.cell? ⟨g,k * 7+3,none⟩=some (.int .u64 (x.exp:Int)):=hcc 3 (by omega)
   have e4:wr.cell? ⟨g,k * 7+4,none⟩=some (.int .i64 x.p.1):=hcc 4 (by omega)
   have e5:wr.cell? ⟨g,k * 7+5,none⟩=some (.int .i64 x.p.2.1):=hcc 5 (by omega)
   have e6:wr.cell? ⟨g,k * 7+6,none⟩=some (.int .i64 x.p.2.2):=hcc 6 (by omega)
   have HX:=Lib.hid (Blk.new wr 72 (kcs x).toArray)
   have HBA:=Lib.hid ((But.refl (fun _=>False) wr).alloc (.cells (kcs x).toArray 72))
   have HCE:=Lib.hid hce
   clear hx hcc hbw hce
   go_wp2_with fail
   change Code.wp _ _ _ _ (wr.alloc (.cells (kcs x).toArray 72))
   obtain ⟨b7,hb7⟩:∃ b,b=wr.heap.size:=⟨_,rfl⟩
   rw [← hb7] at HX ⊢
   generalize wr.alloc (.cells (kcs x).toArray 72)=W at HX HBA ⊢
   clear hb7 e0 e1 e2 e3 e4 e5 e6 k7
   have HCW:=Lib.hid (fun V (hV:But (fun _=>False) W V)=>show (V.cell? ⟨ge,k * 7,none⟩=some (.string x.key)∧V.cell? ⟨ge,k * 7+4,none⟩=some (.int .u64 (x.ver:Int))∧V.cell? ⟨ge,k * 7+5,none⟩=some (.int .u64 (x.exp:Int))∧V.cell? ⟨ge,k * 7+6,none⟩=some (.int .i64 (x.val.size:Int)))∧(V.cell? ⟨b7,0,none⟩=some (.string x.key)∧V.cell? ⟨b7,1,none⟩=some (.string x.val)∧V.cell? ⟨b7,2,none⟩=some (.int .u64 (x.ver:Int))∧V.cell? ⟨b7,3,none⟩=some (.int .u64 (x.exp:Int))) from by
    have hq:=HCE.out V ((HBW.out.trans HBA.out (fun _ _ h=>h)).trans hV (fun _ _ h=>h))
    have hz:=HX.out.but hV (fun h=>h)
    exact ⟨⟨hq 0 (by omega),hq 4 (by omega),hq 5 (by omega),hq 6 (by omega)⟩,hz.cell 0,hz.cell 1,hz.cell 2,hz.cell 3⟩)
   have HS1:=Lib.hid (fun V (hV:But (fun _=>False) W V)=>show V.rangeAt ge (k * 7+1) [.int .i64 x.p.1,.int .i64 x.p.2.1,.int .i64 x.p.2.2] from by
    have hq:=HCE.out V ((HBW.out.trans HBA.out (fun _ _ h=>h)).trans hV (fun _ _ h=>h))
    intro j v hj
    rcases j with _|_|_|j
    ·exact (hq 1 (by omega)).trans hj
    ·exact (hq 2 (by omega)).trans hj
    ·exact (hq 3 (by omega)).trans hj
    ·simp at hj)
   have HS2:=Lib.hid (fun V (hV:But (fun _=>False) W V)=>show V.rangeAt b7 4 [.int .i64 x.p.1,.int .i64 x.p.2.1,.int .i64 x.p.2.2] from by
    have hz:=HX.out.but hV (fun h=>h)
    intro j v hj
    rcases j with _|_|_|j
    ·exact (hz.cell 4).trans hj
    ·exact (hz.cell 5).trans hj
    ·exact (hz.cell 6).trans hj
    ·simp at hj)
   go_wp2_with fail
   refine Late.region_goes (fun V=>But (fun _=>False) W V) (fun _=>false) (by kernel_rfl) ?_ (fun hH=>?_)
   ·exact (But.refl _ W).drew
   refine Late.tk 0 ?_ ?_ hH ?_ (hw:=by kernel_rfl);rotate_left;focus (intro wy hSw;(try dsimp only at hSw);obtain ⟨⟨q0,q4,q5,q6⟩,z0,z1,z2,z3⟩:=HCW.out wy hSw;go_simp;try (with_reducible rfl))
   refine Late.tk 1 ?_ ?_ hH ?_ (hw:=by kernel_rfl);rotate_left;focus (intro wy hSw;(try dsimp only at hSw);obtain ⟨⟨q0,q4,q5,q6⟩,z0,z1,z2,z3⟩:=HCW.out wy hSw;go_simp;try (with_reducible rfl))
   refine Late.tk 2 ?_ ?_ hH ?_ (hw:=by kernel_rfl);rotate_left;focus (intro wy hSw;(try dsimp only at hSw);obtain ⟨⟨q0,q4,q5,q6⟩,z0,z1,z2,z3⟩:=HCW.out wy hSw;go_simp;try (with_reducible rfl))
   refine Late.tk 3 ?_ ?_ hH ?_ (hw:=by kernel_rfl);rotate_left;focus (intro wy hSw;(try dsimp only at hSw);obtain ⟨⟨q0,q4,q5,q6⟩,z0,z1,z2,z3⟩:=HCW.out wy hSw;go_simp;try (with_reducible rfl))
   refine Late.tk 4 ?_ ?_ hH ?_ (hw:=by kernel_rfl);rotate_left;focus (intro wy hSw;(try dsimp only at hSw);obtain ⟨⟨q0,q4,q5,q6⟩,z0,z1,z2,z3⟩:=HCW.out wy hSw;go_simp;try (with_reducible rfl))
   refine Late.tk 5 ?_ ?_ hH ?_ (hw:=by kernel_rfl);rotate_left;focus (intro wy hSw;(try dsimp only at hSw);obtain ⟨⟨q0,q4,q5,q6⟩,z0,z1,z2,z3⟩:=HCW.out wy hSw;go_simp;try (with_reducible rfl))
   refine Late.tk 6 ?_ ?_ hH ?_ (hw:=by kernel_rfl);rotate_left;focus (intro wy hSw;(try dsimp only at hSw);obtain ⟨⟨q0,q4,q5,q6⟩,z0,z1,z2,z3⟩:=HCW.out wy hSw;go_simp;try (with_reducible rfl))
   refine Late.tk 7 ?_ ?_ hH ?_ (hw:=by kernel_rfl);rotate_left;focus (intro wy hSw;(try dsimp only at hSw);obtain ⟨⟨q0,q4,q5,q6⟩,z0,z1,z2,z3⟩:=HCW.out wy hSw;go_simp;try (with_reducible rfl))
   refine Late.tk 8 ?_ ?_ hH ?_ (hw:=by kernel_rfl);rotate_left;focus (intro wy hSw;(try dsimp only at hSw);obtain ⟨⟨q0,q4,q5,q6⟩,z0,z1,z2,z3⟩:=HCW.out wy hSw;go_simp;try (with_reducible rfl))
   refine Late.tk 9 ?_ ?_ hH ?_ (hw:=by kernel_rfl);rotate_left;focus (intro wy hSw;(try dsimp only at hSw);obtain ⟨⟨q0,q4,q5,q6⟩,z0,z1,z2,z3⟩:=HCW.out wy hSw;go_simp;try (with_reducible rfl))
   refine Late.tk 10 ?_ ?_ hH ?_ (hw:=by kernel_rfl);rotate_left;focus (intro wy hSw;(try dsimp only at hSw);obtain ⟨⟨q0,q4,q5,q6⟩,z0,z1,z2,z3⟩:=HCW.out wy hSw;go_simp;try (with_reducible rfl))
   refine Late.tk 11 ?_ ?_ hH ?_ (hw:=by kernel_rfl);rotate_left;focus (intro wy hSw;(try dsimp only at hSw);obtain ⟨⟨q0,q4,q5,q6⟩,z0,z1,z2,z3⟩:=HCW.out wy hSw;go_simp;try (with_reducible rfl))
   refine Late.tk 12 ?_ ?_ hH ?_ (hw:=by kernel_rfl);rotate_left;focus (intro wy hSw;(try dsimp only at hSw);obtain ⟨⟨q0,q4,q5,q6⟩,z0,z1,z2,z3⟩:=HCW.out wy hSw;go_simp;try (with_reducible rfl))
   refine Late.tk 13 ?_ ?_ hH ?_ (hw:=by kernel_rfl);rotate_left;focus (intro wy hSw;(try dsimp only at hSw);obtain ⟨⟨q0,q4,q5,q6⟩,z0,z1,z2,z3⟩:=HCW.out wy hSw;go_simp;try (with_reducible rfl))
   refine Late.tk 14 ?_ ?_ hH ?_ (hw:=by kernel_rfl);rotate_left;focus (intro wy hSw;(try dsimp only at hSw);obtain ⟨⟨q0,q4,q5,q6⟩,z0,z1,z2,z3⟩:=HCW.out wy hSw;go_simp;try (with_reducible rfl))
   refine Late.tk 15 ?_ ?_ hH ?_ (hw:=by kernel_rfl);rotate_left;focus (intro wy hSw;(try dsimp only at hSw);obtain ⟨⟨q0,q4,q5,q6⟩,z0,z1,z2,z3⟩:=HCW.out wy hSw;go_simp;try (with_reducible rfl))
   refine Late.tk 16 ?_ ?_ hH ?_ (hw:=by kernel_rfl);rotate_left;focus (intro wy hSw;(try dsimp only at hSw);obtain ⟨⟨q0,q4,q5,q6⟩,z0,z1,z2,z3⟩:=HCW.out wy hSw;go_simp;try (with_reducible rfl))
   refine Late.tk 17 ?_ ?_ hH ?_ (hw:=by kernel_rfl);rotate_left;focus (intro wy hSw;(try dsimp only at hSw);obtain ⟨⟨q0,q4,q5,q6⟩,z0,z1,z2,z3⟩:=HCW.out wy hSw;go_simp;try (with_reducible rfl))
   refine Late.tk 18 ?_ ?_ hH ?_ (hw:=by kernel_rfl);rotate_left;focus (intro wy hSw;(try dsimp only at hSw);obtain ⟨⟨q0,q4,q5,q6⟩,z0,z1,z2,z3⟩:=HCW.out wy hSw;go_simp;try (with_reducible rfl))
   refine Late.tk 19 ?_ ?_ hH ?_ (hw:=by kernel_rfl);rotate_left;focus (intro wy hSw;(try dsimp only at hSw);obtain ⟨⟨q0,q4,q5,q6⟩,z0,z1,z2,z3⟩:=HCW.out wy hSw;go_simp;try (with_reducible rfl))
   refine Late.tk 20 ?_ ?_ hH ?_ (hw:=by kernel_rfl);rotate_left;focus (intro wy hSw;(try dsimp only at hSw);obtain ⟨⟨q0,q4,q5,q6⟩,z0,z1,z2,z3⟩:=HCW.out wy hSw;go_simp;try (with_reducible rfl))
   refine Late.tk 21 ?_ ?_ hH ?_ (hw:=by kernel_rfl);rotate_left;focus (intro wy hSw;(try dsimp only at hSw);obtain ⟨⟨q0,q4,q5,q6⟩,z0,z1,z2,z3⟩:=HCW.out wy hSw;go_simp;try (with_reducible rfl))
   refine Late.tk 22 ?_ ?_ hH ?_ (hw:=by kernel_rfl);rotate_left;focus (intro wy hSw;(try dsimp only at hSw);obtain ⟨⟨q0,q4,q5,q6⟩,z0,z1,z2,z3⟩:=HCW.out wy hSw;go_simp;try (with_reducible rfl))
   refine Late.tk 23 ?_ ?_ hH ?_ (hw:=by kernel_rfl);rotate_left;focus (intro wy hSw;(try dsimp only at hSw);obtain ⟨⟨q0,q4,q5,q6⟩,z0,z1,z2,z3⟩:=HCW.out wy hSw;go_simp;try (with_reducible rfl))
   refine Late.tk 24 ?_ ?_ hH ?_ (hw:=by kernel_rfl);rotate_left;focus (intro wy hSw;(try dsimp only at hSw);obtain ⟨⟨q0,q4,q5,q6⟩,z0,z1,z2,z3⟩:=HCW.out wy hSw;go_simp;try (with_reducible rfl))
   refine Late.tk 25 ?_ ?_ hH ?_ (hw:=by kernel_rfl);rotate_left;focus (intro wy hSw;(try dsimp only at hSw);obtain ⟨⟨q0,q4,q5,q6⟩,z0,z1,z2,z3⟩:=HCW.out wy hSw;go_simp;try (with_reducible rfl))
   refine Late.tk 26 ?_ ?_ hH ?_ (hw:=by kernel_rfl);rotate_left;focus (intro wy hSw;(try dsimp only at hSw);obtain ⟨⟨q0,q4,q5,q6⟩,z0,z1,z2,z3⟩:=HCW.out wy hSw;go_simp;try (with_reducible rfl))
   refine Late.tk 27 ?_ ?_ hH ?_ (hw:=by kernel_rfl);rotate_left;focus (intro wy hSw;(try dsimp only at hSw);obtain ⟨⟨q0,q4,q5,q6⟩,z0,z1,z2,z3⟩:=HCW.out wy hSw;go_simp;try (with_reducible rfl))
   refine Late.tk 28 ?_ ?_ hH ?_ (hw:=by kernel_rfl);rotate_left;focus (intro wy hSw;(try dsimp only at hSw);obtain ⟨⟨q0,q4,q5,q6⟩,z0,z1,z2,z3⟩:=HCW.out wy hSw;go_simp;try (with_reducible rfl))
   refine Late.tk 29 ?_ ?_ hH ?_ (hw:=by kernel_rfl);rotate_left;focus (intro wy hSw;(try dsimp only at hSw);obtain ⟨⟨q0,q4,q5,q6⟩,z0,z1,z2,z3⟩:=HCW.out wy hSw;go_simp;try (with_reducible rfl))
   refine Late.tk 30 ?_ ?_ hH ?_ (hw:=by kernel_rfl);rotate_left;focus (intro wy hSw;(try dsimp only at hSw);obtain ⟨⟨q0,q4,q5,q6⟩,z0,z1,z2,z3⟩:=HCW.out wy hSw;go_simp;try (with_reducible rfl))
   refine Late.tk 31 ?_ ?_ hH ?_ (hw:=by kernel_rfl);rotate_left;focus (intro wy hSw;(try dsimp only at hSw);obtain ⟨⟨q0,q4,q5,q6⟩,z0,z1,z2,z3⟩:=HCW.out wy hSw;go_simp;try (with_reducible rfl))
   refine Late.tk 32 ?_ ?_ hH ?_ (hw:=by kernel_rfl);rotate_left;focus (intro wy hSw;(try dsimp only at hSw);obtain ⟨⟨q0,q4,q5,q6⟩,z0,z1,z2,z3⟩:=HCW.out wy hSw;go_simp;try (with_reducible rfl))
   refine Late.tk 33 ?_ ?_ hH ?_ (hw:=by kernel_rfl);rotate_left;focus (intro wy hSw;(try dsimp only at hSw);obtain ⟨⟨q0,q4,q5,q6⟩,z0,z1,z2,z3⟩:=HCW.out wy hSw;go_simp;try (with_reducible rfl))
   refine Late.tk 34 ?_ ?_ hH ?_ (hw:=by kernel_rfl);rotate_left;focus (intro wy hSw;(try dsimp only at hSw);obtain ⟨⟨q0,q4,q5,q6⟩,z0,z1,z2,z3⟩:=HCW.out wy hSw;go_simp;try (with_reducible rfl))
   refine Late.tk 35 ?_ ?_ hH ?_ (hw:=by kernel_rfl);rotate_left;focus (intro wy hSw;(try dsimp only at hSw);obtain ⟨⟨q0,q4,q5,q6⟩,z0,z1,z2,z3⟩:=HCW.out wy hSw;go_simp;try (with_reducible rfl))
   refine Late.tk 36 ?_ ?_ hH ?_ (hw:=by kernel_rfl);rotate_left;focus (intro wy hSw;(try dsimp only at hSw);obtain ⟨⟨q0,q4,q5,q6⟩,z0,z1,z2,z3⟩:=HCW.out wy hSw;go_simp;try (with_reducible rfl))
   refine Late.tk 37 ?_ ?_ hH ?_ (hw:=by kernel_rfl);rotate_left;focus (intro wy hSw;(try dsimp only at hSw);obtain ⟨⟨q0,q4,q5,q6⟩,z0,z1,z2,z3⟩:=HCW.out wy hSw;go_simp;try (with_reducible rfl))
   refine Late.tk 38 ?_ ?_ hH ?_ (hw:=by kernel_rfl);rotate_left;focus (intro wy hSw;(try dsimp only at hSw);obtain ⟨⟨q0,q4,q5,q6⟩,z0,z1,z2,z3⟩:=HCW.out wy hSw;go_simp;try (with_reducible rfl))
   refine Late.tk 39 ?_ ?_ hH ?_ (hw:=by kernel_rfl);rotate_left;focus (intro wy hSw;(try dsimp only at hSw);obtain ⟨⟨q0,q4,q5,q6⟩,z0,z1,z2,z3⟩:=HCW.out wy hSw;go_simp;try (with_reducible rfl))
   refine Late.tk 40 ?_ ?_ hH ?_ (hw:=by kernel_rfl);rotate_left;focus (intro wy hSw;(try dsimp only at hSw);obtain ⟨⟨q0,q4,q5,q6⟩,z0,z1,z2,z3⟩:=HCW.out wy hSw;go_simp;try (with_reducible rfl))
   refine Late.tk 41 ?_ ?_ hH ?_ (hw:=by kernel_rfl);rotate_left;focus (intro wy hSw;(try dsimp only at hSw);obtain ⟨⟨q0,q4,q5,q6⟩,z0,z1,z2,z3⟩:=HCW.out wy hSw;go_simp;try (with_reducible rfl))
   refine Late.tk 42 ?_ ?_ hH ?_ (hw:=by kernel_rfl);rotate_left;focus (intro wy hSw;(try dsimp only at hSw);obtain ⟨⟨q0,q4,q5,q6⟩,z0,z1,z2,z3⟩:=HCW.out wy hSw;go_simp;try (with_reducible rfl))
   refine Late.tk 43 ?_ ?_ hH ?_ (hw:=by kernel_rfl);rotate_left;focus (intro wy hSw;(try dsimp only at hSw);obtain ⟨⟨q0,q4,q5,q6⟩,z0,z1,z2,z3⟩:=HCW.out wy hSw;go_simp;try (with_reducible rfl))
   try simp only [Act.put,List.setIfInBounds_toArray,List.set_cons_zero,List.set_cons_succ]
   refine Late.Goes.takeT (i:=44) (v:=_) (by simp only [List.getElem?_toArray,List.getElem?_cons_succ,List.getElem?_cons_zero];rfl) (by kernel_rfl) (by kernel_rfl) (by kernel_rfl) (by kernel_rfl) (by kernel_rfl) (by exact fun _ _ _ h=>h) (yields_spot (by rfl) _ rfl ge (k * 7+1) rfl x.p (fun V hV=>HS1.out V hV)) hH ?_
   try simp only [Act.put,List.setIfInBounds_toArray,List.set_cons_zero,List.set_cons_succ]
   refine Late.tk 45 ?_ ?_ hH ?_ (hw:=by kernel_rfl);rotate_left;focus (intro wy hSw;(try dsimp only at hSw);obtain ⟨⟨q0,q4,q5,q6⟩,z0,z1,z2,z3⟩:=HCW.out wy hSw;go_simp;try (with_reducible rfl))
   try simp only [Act.put,List.setIfInBounds_toArray,List.set_cons_zero,List.set_cons_succ]
   refine Late.Goes.takeT (i:=46) (v:=_) (by simp only [List.getElem?_toArray,List.getElem?_cons_succ,List.getElem?_cons_zero];rfl) (by kernel_rfl) (by kernel_rfl) (by kernel_rfl) (by kernel_rfl) (by kernel_rfl) (by exact fun _ _ _ h=>h) (yields_spot (by rfl) _ rfl b7 4 rfl x.p (fun V hV=>HS2.out V hV)) hH ?_
   try simp only [Act.put,List.setIfInBounds_toArray,List.set_cons_zero,List.set_cons_succ]
   refine Late.Goes.takeT (i:=47) (v:=_) (by simp only [List.getElem?_toArray,List.getElem?_cons_succ,List.getElem?_cons_zero];rfl) (by kernel_rfl) (by kernel_rfl) (by kernel_rfl) (by kernel_rfl) (by kernel_rfl) (by exact fun _ _ _ h=>h) (yields_spotneq (by rfl) _ _ _ rfl x.p rfl rfl) hH ?_
   try simp only [Act.put,List.setIfInBounds_toArray,List.set_cons_zero,List.set_cons_succ]
   refine Late.tk 48 ?_ ?_ hH ?_ (hw:=by kernel_rfl);rotate_left;focus (intro wy hSw;(try dsimp only at hSw);obtain ⟨⟨q0,q4,q5,q6⟩,z0,z1,z2,z3⟩:=HCW.out wy hSw;go_simp;try (with_reducible rfl))
   try simp only [Act.put,List.setIfInBounds_toArray,List.set_cons_zero,List.set_cons_succ]
   refine Late.Goes.done (by kernel_rfl) ?_ _
   have HVR:=Lib.hid hH
   clear hH
   go_wp2_with fail
   go_roundw
   case rel=>exact ⟨k+1,by omega,by go_num,(HBW.out.trans HBA.out (fun _ _ h=>h)).trans HVR.out (fun _ _ h=>h)⟩
   case measure=>simp [intOf];omega
  ·have hkn:k=N:=by omega
   subst hkn
   clear hbw
   go_wp2_with fail
   go_ret
   exact ⟨rfl,HB1.out.trans HBW.out (fun _ _ h=>h)⟩
end
end Go.Proofs.YtgjofinbdigmcaaGreat.Buk

/- Contracts of the bucket's put and takeOut. -/
import Derived.Test.YtgjofinbdigmcaaGreatG19
set_option linter.unusedSimpArgs false
set_option linter.unusedVariables false
set_option maxHeartbeats 4000000
set_option maxRecDepth 100000
namespace Go.Proofs.YtgjofinbdigmcaaGreat.Buk
open Go.Proofs.YtgjofinbdigmcaaGreat.Mem
open Go.ChangeShapes Go.WideShapes Go.ChangeAt Go.RowKit
def Made (w:World) (s:Bl) (B:Bk) (T:Tab) (i:Nat) (w':World):Prop:=∃ s' m',BM w' s' B T m' i∧Ok B T m' i∧Step w s s' w'
theorem Made.trans {w w1 w2:World} {s s1:Bl} {B:Bk} {T:Tab} {i:Nat} (h:Step w s s1 w1) (k:Made w1 s1 B T i w2):Made w s B T i w2:=by
 obtain ⟨s',m',h1,h2,h3⟩:=k
 exact ⟨s',m',h1,h2,h.trans h3⟩
theorem Ok.put {B:Bk} {T:Tab} {m m':List It} {i:Nat} (o:Ok B T m i) (hg:Key.Good T i) {e:Ent} (he:OkE e) (hm:(e.exp=0∧m'=m)∨(e.exp≠0∧m'=Exp.ins m ⟨e.exp,e.key⟩)):Ok { B with bytes:=tot (all (Key.put T e)) } (Key.put T e) m' (i+1):=by
 have hmem:∀ x,x ∈ m' ↔ x ∈ m∨(e.exp≠0∧m'≠m∧x=⟨e.exp,e.key⟩)∨(m'=Exp.ins m ⟨e.exp,e.key⟩∧x=⟨e.exp,e.key⟩):=by
  intro x
  rcases hm with ⟨h0,rfl⟩|⟨h0,rfl⟩
  ·refine ⟨.inl,fun h=>?_⟩
   rcases h with h|h|⟨h,h1⟩
   ·exact h
   ·exact absurd h0 h.1
   ·have:=congrArg List.length h
    rw [(Exp.ins_perm m' ⟨e.exp,e.key⟩).length_eq] at this
    simp at this
  ·have hp:=(Exp.ins_perm m ⟨e.exp,e.key⟩).mem_iff (a:=x)
   rw [hp,List.mem_cons]
   refine ⟨fun h=>h.elim (fun h => .inr (.inr ⟨rfl,h⟩)) .inl,fun h=>?_⟩
   rcases h with h|h|h
   ·exact .inr h
   ·exact .inl h.2.2
   ·exact .inl h.2
 refine ⟨rfl,o.cov.put hg (fun x hx=>(hmem x).2 (.inl hx)) (fun h0=>?_),?_,fun x hx=>?_,o.okt.put hg he,o.id,o.gen,o.seq,o.serial,?_⟩
 ·rcases hm with ⟨h1,_⟩|⟨_,h1⟩
  ·exact absurd h1 h0
  ·exact (hmem _).2 (.inr (.inr ⟨h1,rfl⟩))
 ·have:=o.few
  rcases hm with ⟨_,rfl⟩|⟨_,rfl⟩
  ·omega
  ·rw [(Exp.ins_perm m ⟨e.exp,e.key⟩).length_eq];simp;omega
 ·rcases (hmem x).1 hx with h|h|h
  ·exact o.okm x h
  ·rw [h.2.2];exact ⟨⟨Nat.pos_of_ne_zero h.1,he.exp⟩,he.key.2⟩
  ·rw [h.2]
   have h0:e.exp≠0:=by
    rcases hm with ⟨_,h1⟩|⟨h1,_⟩
    ·have h2:=congrArg List.length (h1.symm.trans h.1)
     rw [(Exp.ins_perm m ⟨e.exp,e.key⟩).length_eq] at h2
     simp at h2
    ·exact h1
   exact ⟨⟨Nat.pos_of_ne_zero h0,he.exp⟩,he.key.2⟩
 ·have:=o.charged
  exact ⟨this.1,by have:=this.2;show B.charged≤_;omega⟩
theorem Ok.del {B:Bk} {T:Tab} {m:List It} {i:Nat} (o:Ok B T m i) (hg:Key.Good T i) (k:ByteArray):Ok { B with bytes:=tot (all (Key.del T k)) } (Key.del T k) m i:=⟨rfl,o.cov.del hg k,o.few,o.okm,o.okt.del hg k,o.id,o.gen,o.seq,o.serial,o.charged⟩
section
variable {w w':World} {s:Bl} {B:Bk} {T:Tab} {m:List It} {i:Nat}
theorem take_any (h:BM w s B T m i) (hb:B.bytes=tot (all T)) (hot:OkT T) (k:ByteArray) (hk:k.size≤200) (hi:i+1≤400):Calls Tryz.prog 26 #[.pointer (some ⟨s.p,0,none⟩),.string k] w fun e w'=>e = .returned (.tuple #[])∧BM w' s { B with bytes:=tot (all (Key.del T k)) } (Key.del T k) m i∧Step w s s w':=by
 have hg:=h.key.good
 have hd:=tot_del hg k
 have hl:=hot.tot hg
 have ho:=hot.of_ask hg k
 have hi2:=h.key.few
 have k7:w.cell? ⟨s.p,7,none⟩=some (.pointer (some ⟨s.kp,0,none⟩)):=h.cell 7
 have HG:=Lib.hid (Key.kget_any h.key k hk)
 have HEQ:=Lib.hid (And.intro hb hd)
 rw [← hb] at hl
 have HES:=Lib.hid (show ∀ f,f=Key.ask T k→(Key.ent f).key.size≤100000∧0≤(Key.ent f).size∧(Key.ent f).size≤100000 from fun f hf=>by
  cases f with
  | none=>exact ⟨Nat.zero_le _,Int.le_refl _,by decide⟩
  | some e =>
   have:=hot.ask hg hf.symm
   have h1:=this.key
   have h2:=this.size
   exact ⟨by show e.key.size≤_;omega,h2.1,by show e.size≤_;omega⟩)
 obtain ⟨f,hf⟩:∃ f,f=Key.ask T k:=⟨_,rfl⟩
 have hes:=HES.out f hf
 rw [← hf] at HG ho HEQ
 have HH:=Lib.hid h
 have HGD:=Lib.hid (good_del hg k)
 obtain ⟨x,hx⟩:∃ x,x=of (Key.ent f):=⟨_,rfl⟩
 obtain ⟨z,hz⟩:∃ z,z=B.bytes:=⟨_,rfl⟩
 rw [← hx] at ho HEQ
 rw [← hz] at hl HEQ
 have HBO:=Lib.hid (fun W=>bytes_of (Key.ent f) hes.1 hes.2 W)
 rw [← hx] at HBO
 have w1:IntKind.i64.wrap (z - x)=z - x:=IntWalk.i64_in _ (by omega)
 have HZ:=Lib.hid hz
 clear h hot hg hb hd hf HES hx hz ho hl hes
 go_enter Tryz.func26,Tryz.ntmps26
 go_wp2_with fail
 refine HG.out.mono ?_
 rintro e wa ⟨rfl,hba⟩
 clear k7
 have HA:=Lib.hid (And.intro (HH.out.new hba) (And.intro hba (Blk.new wa 45 (entB Key.zero))))
 clear hba HG
 have HW:=Lib.hid ((But.refl (fun _=>False) wa).alloc (.cells (entB Key.zero) 45))
 obtain ⟨b4,hb4⟩:∃ b,b=wa.heap.size:=⟨_,rfl⟩
 have HTH:=Lib.hid (blk_there0 (n:=7) HA.out.2.2 (by rfl))
 rw [← hb4] at HA HTH
 have HST:=Lib.hid (And.intro (blk_set0 (vs:=Key.ecells (Key.ent f)) HA.out.2.2 (by rw [Key.ecells_length];rfl)) (HW.out.trans (but_setCells b4 (Key.ecells (Key.ent f)) 0 (wa.alloc (.cells (entB Key.zero) 45))) (fun j hj e=>by omega)))
 obtain ⟨W,hW⟩:∃ W,W=(wa.alloc (.cells (entB Key.zero) 45)).setCells b4 0 (Key.ecells (Key.ent f)):=⟨_,rfl⟩
 rw [← hW] at HST
 have HM1:=Lib.hid (HA.out.1.new HST.out.2)
 have c7:W.cell? ⟨s.p,7,none⟩=some (.pointer (some ⟨s.kp,0,none⟩)):=HM1.out.cell 7
 have HD:=Lib.hid (Key.kdel_any HM1.out.key k hk hi)
 have HWE:=Lib.hid hW
 clear hW
 go_wp2_with (rw [← hb4];refine wpList_store_mid rfl 45 _ _ rfl b4 0 (Key.ecells (Key.ent f)).toArray rfl rfl (by simp only [List.size_toArray,Key.ecells_length];exact HTH.out) (by simp only [List.size_toArray,Key.ecells_length];exact Key.entry_size) (all_oneCell_toArray (Key.ecells_one _)) ?_;change wpList _ _ _ _ _ ((wa.alloc (.cells (entB Key.zero) 45)).setCells b4 0 (Key.ecells (Key.ent f)));rw [← HWE.out])
 refine HD.out.mono ?_
 rintro e wb ⟨rfl,hkd,hbd⟩
 clear c7
 have hk2:Key.KAt wb s.kp s.kg (Key.del T k) i (Key.cnt (Key.del T k)):=⟨hkd.blk,hkd.row,HGD.out,hkd.small,hi2⟩
 have hst:=HM1.out.step_key hk2 hbd (.inl rfl)
 have HM2:=Lib.hid (show BM wb s B (Key.del T k) m i∧Step W s s wb from hst)
 have HX2:=Lib.hid (HST.out.1.but hbd (fun e=>by
  rcases e with e|e
  ·exact HST.out.1.ne_ HM1.out.key.blk (by decide) e
  ·exact HST.out.1.ne_ HM1.out.key.row (by decide) e))
 have HC8:=Lib.hid (fun V (hV:But (fun _=>False) wb V)=>show V.cell? ⟨s.p,10,none⟩=some (.int .i64 z) from by
  have:=(HM2.out.1.new hV).cell 10
  rw [show (bcells B s)[10]?=some (.int .i64 B.bytes) from rfl,← HZ.out] at this
  exact this)
 have HS0:=Lib.hid (HA.out.2.1.trans HST.out.2 (fun _ _ h=>h))
 clear hkd hbd hk2 hst HD
 go_wp2_with fail
 rw [← hb4]
 refine Late.region_goes (fun V=>But (fun _=>False) wb V) (fun j=>j == 9) (by kernel_rfl) ?_ (fun hH=>?_)
 ·exact (But.refl _ wb).drew
 refine Late.tk 0 ?_ ?_ hH ?_;rotate_left 2
 refine Late.tk 1 ?_ ?_ hH ?_;rotate_left 2
 refine Late.tk 2 ?_ ?_ hH ?_;rotate_left 2
 refine Late.tk 3 ?_ ?_ hH ?_;rotate_left 2
 rotate_left
 any_goals (intro wy hSw;(try dsimp only at hSw);have k0:=HC8.out wy hSw;go_simp;try (with_reducible rfl))
 try simp only [Act.put,List.setIfInBounds_toArray,List.set_cons_zero,List.set_cons_succ]
 refine Late.Goes.takeT (i:=4) (v:=_) (by simp only [List.getElem?_toArray,List.getElem?_cons_succ,List.getElem?_cons_zero];rfl) (by kernel_rfl) (by kernel_rfl) (by kernel_rfl) (by kernel_rfl) (by kernel_rfl) (by exact fun _ _ _ h=>h) (Key.yields_entry (by rfl) _ rfl b4 0 rfl (Key.ent f) (fun V hV=>Key.ent_range (HX2.out.but hV (fun h=>h)))) hH ?_
 try simp only [Act.put,List.setIfInBounds_toArray,List.set_cons_zero,List.set_cons_succ]
 have HV:=Lib.hid hH
 refine Late.Goes.one (i:=5) (by kernel_rfl) (by simp only [List.getElem?_toArray,List.getElem?_cons_succ,List.getElem?_cons_zero];rfl) (fun K hK=>?_)
 clear hH
 go_simp
 go_at_call 54
 refine (HBO.out _).mono ?_
 rintro e wc ⟨rfl,hbc⟩
 have HVC:=Lib.hid (HV.out.trans hbc (fun _ _ h=>h))
 clear hbc
 refine hK.out _ _ ?_ (fun hH=>?_)
 ·exact fun _=>HVC.out
 clear hK K
 have hH:=hH rfl
 try simp only [Act.put,List.setIfInBounds_toArray,List.set_cons_zero,List.set_cons_succ]
 refine Late.tk 6 ?_ ?_ hH ?_;rotate_left 2
 refine Late.tk 7 ?_ ?_ hH ?_;rotate_left 2
 refine Late.tk 8 ?_ ?_ hH ?_;rotate_left 2
 rotate_left
 any_goals (intro wy hSw;(try dsimp only at hSw);have k0:=HC8.out wy hSw;go_simp;try (with_reducible rfl))
 try simp only [Act.put,List.setIfInBounds_toArray,List.set_cons_zero,List.set_cons_succ]
 have HFR:=Lib.hid ((HM2.out.1.new HVC.out).blk.frozen 10)
 have k9:=HC8.out _ HVC.out
 have f9:=HFR.out
 refine Late.Goes.one (i:=9) (by kernel_rfl) (by simp only [List.getElem?_toArray,List.getElem?_cons_succ,List.getElem?_cons_zero];rfl) (fun K hK=>?_)
 clear hH
 go_simp
 clear k9 f9
 have hfin:=(HM2.out.1.new HVC.out).step_cell 10 (.int .i64 (z - x)) (B':={ B with bytes:=z - x }) rfl rfl
 have HF:=Lib.hid hfin
 clear hfin
 refine hK.out _ _ ?_ (fun _=>?_)
 ·exact fun h=>by cases h
 clear hK K
 try simp only [Act.put,List.setIfInBounds_toArray,List.set_cons_zero,List.set_cons_succ]
 refine Late.Goes.done (by kernel_rfl) ?_ _
 go_wp2_with fail
 go_end0
 rw [HEQ.out.2,← HEQ.out.1]
 exact ⟨rfl,HF.out.1,(Step.of_new HS0.out).trans (HM2.out.2.trans ((Step.of_new HVC.out).trans HF.out.2))⟩
theorem put_any (h:BM w s B T m i) (o:Ok B T m i) (e:Ent) (he:OkE e) (hi:i+1≤400):Calls Tryz.prog 29 #[.pointer (some ⟨s.p,0,none⟩),Key.ev e] w fun x w'=>x = .returned (.tuple #[])∧Made w s { B with bytes:=tot (all (Key.put T e)) } (Key.put T e) (i+1) w':=by
 have hg:=h.key.good
 have hb:=o.bytes
 have hd:=tot_put hg e
 have hl:=o.okt.tot hg
 have hoe:=of_ok he
 have hoo:=o.okt.of_ask hg e.key
 have hi2:=h.key.few
 have HOK:=Lib.hid (fun m' (hm:(e.exp=0∧m'=m)∨(e.exp≠0∧m'=Exp.ins m ⟨e.exp,e.key⟩))=>o.put hg he hm)
 have HML:=Lib.hid o.few
 have HEQ:=Lib.hid (And.intro hb hd)
 rw [← hb] at hl
 have HES:=Lib.hid (show ∀ f,f=Key.ask T e.key→(Key.ent f).key.size≤100000∧0≤(Key.ent f).size∧(Key.ent f).size≤100000 from fun f hf=>by
  cases f with
  | none=>exact ⟨Nat.zero_le _,Int.le_refl _,by decide⟩
  | some e =>
   have:=o.okt.ask hg hf.symm
   have h1:=this.key
   have h2:=this.size
   exact ⟨by show e.key.size≤_;omega,h2.1,by show e.size≤_;omega⟩)
 have hek:=he.key
 have hsz:=he.size
 have HX:=Lib.hid (Blk.new w 45 (entB e))
 have HB0:=Lib.hid ((But.refl (fun _=>False) w).alloc (.cells (entB e) 45))
 have HG:=Lib.hid (fun V (hV:But (fun _=>False) w V)=>Key.kget_any (h.new hV).key e.key (by omega))
 have HC7:=Lib.hid (fun V (hV:But (fun _=>False) w V)=>show V.cell? ⟨s.p,7,none⟩=some (.pointer (some ⟨s.kp,0,none⟩)) from (h.new hV).cell 7)
 obtain ⟨f,hf⟩:∃ f,f=Key.ask T e.key:=⟨_,rfl⟩
 have hes:=HES.out f hf
 rw [← hf] at hoo
 have HGF:=Lib.hid (show ∀ V,But (fun _=>False) w V→Calls Tryz.prog 48 #[.pointer (some ⟨s.kp,0,none⟩),.string e.key] V fun e w'=>e = .returned (.tuple #[Key.ev (Key.ent f),.bool f.isSome])∧But (fun _=>False) V w' from fun V hV=>by rw [hf];exact HG.out V hV)
 have HH:=Lib.hid h
 have HPU:=Lib.hid (fun V (hV:But (fun _=>False) w V)=>Key.kput_any (h.new hV).key e (by omega) hi)
 obtain ⟨x,hx⟩:∃ x,x=of (Key.ent f):=⟨_,rfl⟩
 obtain ⟨y,hy⟩:∃ y,y=of e:=⟨_,rfl⟩
 obtain ⟨z,hz⟩:∃ z,z=B.bytes:=⟨_,rfl⟩
 have HEQ2:=Lib.hid (show tot (all (Key.put T e))=z+(y - x) by rw [HEQ.out.2,hx,hy,hz,hf,HEQ.out.1])
 rw [← hx] at hoo
 rw [← hy] at hoe
 rw [← hz] at hl
 have HBO:=Lib.hid (fun W=>bytes_of (Key.ent f) hes.1 hes.2 W)
 have HBE:=Lib.hid (fun W=>bytes_of e (by omega) (by omega) W)
 rw [← hx] at HBO
 rw [← hy] at HBE
 have w1:IntKind.i64.wrap (y - x)=y - x:=IntWalk.i64_in _ (by omega)
 have w2:IntKind.i64.wrap (z+(y - x))=z+(y - x):=IntWalk.i64_in _ (by omega)
 have HZ:=Lib.hid hz
 have hlt:=h.lt
 have HLT:=Lib.hid hlt
 clear h o hg hb hd hf HES hx hz hl hes hoe hoo hy HG HEQ hek hsz he hlt
 change Calls _ _ #[.pointer (some ⟨s.p,0,none⟩),.agg #[.string e.key,.int .i64 e.seg,.int .i64 e.at_,.int .i64 e.len,.int .u64 (e.ver:Int),.int .u64 (e.exp:Int),.int .i64 e.size]] w _
 go_enter Tryz.func29,Tryz.ntmps29
 go_wp2_with fail
 obtain ⟨b3,hb3⟩:∃ b,b=w.heap.size:=⟨_,rfl⟩
 change Code.wp _ _ _ _ (w.alloc (.cells (entB e) 45))
 rw [← hb3] at HX ⊢
 generalize w.alloc (.cells (entB e) 45)=W at HX HB0 ⊢
 have HBL:=Lib.hid (show w.heap.size≤b3 by omega)
 clear hb3
 have HXC:=Lib.hid (fun V (hV:Blk V b3 45 (entB e))=>(And.intro (show V.cell? ⟨b3,0,none⟩=some (.string e.key) from hV.cell 0) (show V.cell? ⟨b3,5,none⟩=some (.int .u64 (e.exp:Int)) from hV.cell 5)))
 refine Late.region_goes (fun V=>But (fun _=>False) w V∧Blk V b3 45 (entB e)) (fun _=>false) (by kernel_rfl) ?_ (fun hH=>?_)
 ·exact ⟨HB0.out.drew,HX.out.but ((But.refl (fun _=>False) W).drew) (fun h=>h)⟩
 refine Late.tk 0 ?_ ?_ hH ?_ (hw:=by kernel_rfl);rotate_left;focus (intro wy hSw;(try dsimp only at hSw);have k0:=HC7.out wy hSw.1;have k1:=(HXC.out wy hSw.2).1;go_simp;try (with_reducible rfl))
 refine Late.tk 1 ?_ ?_ hH ?_ (hw:=by kernel_rfl);rotate_left;focus (intro wy hSw;(try dsimp only at hSw);have k0:=HC7.out wy hSw.1;have k1:=(HXC.out wy hSw.2).1;go_simp;try (with_reducible rfl))
 refine Late.tk 2 ?_ ?_ hH ?_ (hw:=by kernel_rfl);rotate_left;focus (intro wy hSw;(try dsimp only at hSw);have k0:=HC7.out wy hSw.1;have k1:=(HXC.out wy hSw.2).1;go_simp;try (with_reducible rfl))
 refine Late.tk 3 ?_ ?_ hH ?_ (hw:=by kernel_rfl);rotate_left;focus (intro wy hSw;(try dsimp only at hSw);have k0:=HC7.out wy hSw.1;have k1:=(HXC.out wy hSw.2).1;go_simp;try (with_reducible rfl))
 refine Late.tk 4 ?_ ?_ hH ?_ (hw:=by kernel_rfl);rotate_left;focus (intro wy hSw;(try dsimp only at hSw);have k0:=HC7.out wy hSw.1;have k1:=(HXC.out wy hSw.2).1;go_simp;try (with_reducible rfl))
 refine Late.tk 5 ?_ ?_ hH ?_ (hw:=by kernel_rfl);rotate_left;focus (intro wy hSw;(try dsimp only at hSw);have k0:=HC7.out wy hSw.1;have k1:=(HXC.out wy hSw.2).1;go_simp;try (with_reducible rfl))
 try simp only [Act.put,List.setIfInBounds_toArray,List.set_cons_zero,List.set_cons_succ]
 have HS1:=Lib.hid hH
 refine Late.Goes.two (i:=6) (j:=10) (by kernel_rfl) (by simp only [List.getElem?_toArray,List.getElem?_cons_succ,List.getElem?_cons_zero];rfl) (by simp only [List.getElem?_toArray,List.getElem?_cons_succ,List.getElem?_cons_zero];rfl) (fun K hK=>?_) (fun K hK=>?_) <;> clear hH
 ·go_simp
  go_at_call 48
  refine (HGF.out _ HS1.out.1).mono ?_
  rintro e' w1 ⟨rfl,hb1⟩
  have HS2:=Lib.hid (And.intro (HS1.out.1.trans hb1 (fun _ _ h=>h)) (HS1.out.2.but hb1 (fun h=>h)))
  refine hK.out _ _ ?_ (fun hH=>?_)
  ·exact fun _=>HS2.out
  clear hK K
  have hH:=hH rfl
  try simp only [Act.put,List.setIfInBounds_toArray,List.set_cons_zero,List.set_cons_succ]
  refine Late.tk 7 ?_ ?_ hH ?_ (hw:=by kernel_rfl);rotate_left;focus (intro wy hSw;(try dsimp only at hSw);have k0:=HC7.out wy hSw.1;have k1:=(HXC.out wy hSw.2).1;go_simp;try (with_reducible rfl))
  refine Late.tk 8 ?_ ?_ hH ?_ (hw:=by kernel_rfl);rotate_left;focus (intro wy hSw;(try dsimp only at hSw);have k0:=HC7.out wy hSw.1;have k1:=(HXC.out wy hSw.2).1;go_simp;try (with_reducible rfl))
  refine Late.tk 9 ?_ ?_ hH ?_ (hw:=by kernel_rfl);rotate_left;focus (intro wy hSw;(try dsimp only at hSw);have k0:=HC7.out wy hSw.1;have k1:=(HXC.out wy hSw.2).1;go_simp;try (with_reducible rfl))
  try simp only [Act.put,List.setIfInBounds_toArray,List.set_cons_zero,List.set_cons_succ]
  refine Late.Goes.one (i:=10) (by kernel_rfl) (by simp only [List.getElem?_toArray,List.getElem?_cons_succ,List.getElem?_cons_zero];rfl) (fun K hK=>?_)
  clear hH
  go_simp
  have HS3:=Lib.hid (show But (fun _=>False) w (w1.alloc (.cells (entB Key.zero) 45))∧Blk (w1.alloc (.cells (entB Key.zero) 45)) b3 45 (entB e)∧Blk (w1.alloc (.cells (entB Key.zero) 45)) w1.heap.size 45 (entB Key.zero) from ⟨HS2.out.1.alloc _,HS2.out.2.but ((But.refl (fun _=>False) _).alloc _) (fun h=>h),Blk.new _ _ _⟩)
  have HS4:=Lib.hid (show w.heap.size≤w1.heap.size∧b3 < w1.heap.size from ⟨HS2.out.1.size,HS2.out.2.lt⟩)
  change K (_:Act) (w1.alloc (.cells (entB Key.zero) 45))
  generalize w1.alloc (.cells (entB Key.zero) 45)=W3 at HS3 ⊢
  generalize w1.heap.size=b5 at HS3 HS4 ⊢
  refine hK.out _ _ ?_ (fun hH=>?_)
  ·exact fun _=>⟨HS3.out.1,HS3.out.2.1⟩
  clear hK K
  have hH:=hH rfl
  try simp only [Act.put,List.setIfInBounds_toArray,List.set_cons_zero,List.set_cons_succ]
  refine Late.Goes.one (i:=11) (by kernel_rfl) (by simp only [List.getElem?_toArray,List.getElem?_cons_succ,List.getElem?_cons_zero];rfl) (fun K hK=>?_)
  clear hH
  refine Key.wp_store_blk (by rfl) 45 _ _ rfl b5 0 (Key.ecells (Key.ent f)) rfl rfl (blk_there0 HS3.out.2.2 (by rfl)) (by rw [Key.ecells_length];exact Key.entry_size) (Key.ecells_one _) ?_
  have HS5:=Lib.hid (And.intro (HS3.out.1.trans (but_setCells b5 (Key.ecells (Key.ent f)) 0 W3) (fun k hk e=>by have:=HS4.out.1;omega)) (And.intro (HS3.out.2.1.but (but_setCells b5 (Key.ecells (Key.ent f)) 0 W3) (fun e=>by have:=HS4.out.2;omega)) (blk_set0 (vs:=Key.ecells (Key.ent f)) HS3.out.2.2 (by rw [Key.ecells_length];rfl))))
  generalize W3.setCells b5 0 (Key.ecells (Key.ent f))=W5 at HS5 ⊢
  refine hK.out _ _ ?_ (fun hH=>?_)
  ·exact fun _=>⟨HS5.out.1,HS5.out.2.1⟩
  clear hK K
  have hH:=hH rfl
  try simp only [Act.put,List.setIfInBounds_toArray,List.set_cons_zero,List.set_cons_succ]
  refine Late.tk 12 ?_ ?_ hH ?_ (hw:=by kernel_rfl);rotate_left;focus (intro wy hSw;(try dsimp only at hSw);have k0:=HC7.out wy hSw.1;have k1:=(HXC.out wy hSw.2).1;go_simp;try (with_reducible rfl))
  try simp only [Act.put,List.setIfInBounds_toArray,List.set_cons_zero,List.set_cons_succ]
  refine Late.Goes.done (by kernel_rfl) ?_ _
  go_wp2_with fail
  refine Late.region_goes (fun V=>V=W5.drew) (fun j=>j == 5) (by kernel_rfl) ?_ (fun hH=>?_)
  ·rfl
  refine Late.tk 0 ?_ ?_ hH ?_;rotate_left 2
  refine Late.tk 1 ?_ ?_ hH ?_;rotate_left 2
  refine Late.tk 2 ?_ ?_ hH ?_;rotate_left 2
  refine Late.tk 3 ?_ ?_ hH ?_;rotate_left 2
  rotate_left
  any_goals (intro wy hSw;(try dsimp only at hSw);subst hSw;have k0:=HC7.out _ HS5.out.1.drew;go_simp;try (with_reducible rfl))
  try simp only [Act.put,List.setIfInBounds_toArray,List.set_cons_zero,List.set_cons_succ]
  refine Late.Goes.takeT (i:=4) (v:=_) (by simp only [List.getElem?_toArray,List.getElem?_cons_succ,List.getElem?_cons_zero];rfl) (by kernel_rfl) (by kernel_rfl) (by kernel_rfl) (by kernel_rfl) (by kernel_rfl) (by exact fun _ _ _ h=>h) (Key.yields_entry (by rfl) _ rfl b3 0 rfl e (fun V hV=>by rw [hV];exact Key.ent_range (HS5.out.2.1.but ((But.refl (fun _=>False) W5).drew) (fun h=>h)))) hH ?_
  try simp only [Act.put,List.setIfInBounds_toArray,List.set_cons_zero,List.set_cons_succ]
  refine Late.Goes.one (i:=5) (by kernel_rfl) (by simp only [List.getElem?_toArray,List.getElem?_cons_succ,List.getElem?_cons_zero];rfl) (fun K hK=>?_)
  clear hH
  go_simp
  go_at_call 61
  refine (HPU.out _ HS5.out.1.drew).mono ?_
  rintro e' w6 ⟨rfl,g',hk6,hg6,hb6⟩
  have hst:=(HH.out.new HS5.out.1.drew).step_key hk6 hb6 hg6
  obtain ⟨s1,hs1⟩:∃ s1:Bl,s1={ s with kg:=g' }:=⟨_,rfl⟩
  rw [← hs1] at hst
  have HP1:=Lib.hid (show s1.p=s.p∧s1.hp=s.hp by rw [hs1];exact ⟨rfl,rfl⟩)
  have HM6:=Lib.hid (show BM w6 s1 B (Key.put T e) m (i+1)∧Step w s s1 w6 from ⟨hst.1,(Step.of_new HS5.out.1.drew).trans hst.2⟩)
  have hnb:∀ b,(∃ c,Blk W5 b 45 c)→¬ (b=s.kp∨b=s.kg):=fun b ⟨c,hc⟩ e=>by
   have hK:=(HH.out.new HS5.out.1).key
   rcases e with e|e
   ·exact hc.ne_ hK.blk (by decide) e
   ·exact hc.ne_ hK.row (by decide) e
  have HXX:=Lib.hid (And.intro ((HS5.out.2.1.but ((But.refl (fun _=>False) W5).drew) (fun h=>h)).but hb6 (hnb b3 ⟨_,HS5.out.2.1⟩)) ((HS5.out.2.2.but ((But.refl (fun _=>False) W5).drew) (fun h=>h)).but hb6 (hnb b5 ⟨_,HS5.out.2.2⟩)))
  clear hk6 hg6 hb6 hst hs1 hnb HPU
  refine hK.out _ _ ?_ (fun _=>?_)
  ·exact fun h=>by cases h
  clear hK K
  try simp only [Act.put,List.setIfInBounds_toArray,List.set_cons_zero,List.set_cons_succ]
  refine Late.Goes.done (by kernel_rfl) ?_ _
  have HC10:=Lib.hid (fun V (hV:But (fun _=>False) w6 V)=>show V.cell? ⟨s.p,10,none⟩=some (.int .i64 z) from by
   have:=(HM6.out.1.new hV).cell 10
   rw [show (bcells B s1)[10]?=some (.int .i64 B.bytes) from rfl,← HZ.out,HP1.out.1] at this
   exact this)
  go_wp2_with fail
  refine Late.region_goes (fun V=>But (fun _=>False) w6 V) (fun j=>j == 12) (by kernel_rfl) ?_ (fun hH=>?_)
  ·exact (But.refl _ w6).drew
  refine Late.tk 0 ?_ ?_ hH ?_ (hw:=by kernel_rfl);rotate_left;focus (intro wy hSw;(try dsimp only at hSw);have k0:=HC10.out wy hSw;go_simp;try (with_reducible rfl))
  refine Late.tk 1 ?_ ?_ hH ?_ (hw:=by kernel_rfl);rotate_left;focus (intro wy hSw;(try dsimp only at hSw);have k0:=HC10.out wy hSw;go_simp;try (with_reducible rfl))
  refine Late.tk 2 ?_ ?_ hH ?_ (hw:=by kernel_rfl);rotate_left;focus (intro wy hSw;(try dsimp only at hSw);have k0:=HC10.out wy hSw;go_simp;try (with_reducible rfl))
  refine Late.tk 3 ?_ ?_ hH ?_ (hw:=by kernel_rfl);rotate_left;focus (intro wy hSw;(try dsimp only at hSw);have k0:=HC10.out wy hSw;go_simp;try (with_reducible rfl))
  try simp only [Act.put,List.setIfInBounds_toArray,List.set_cons_zero,List.set_cons_succ]
  refine Late.Goes.takeT (i:=4) (v:=_) (by simp only [List.getElem?_toArray,List.getElem?_cons_succ,List.getElem?_cons_zero];rfl) (by kernel_rfl) (by kernel_rfl) (by kernel_rfl) (by kernel_rfl) (by kernel_rfl) (by exact fun _ _ _ h=>h) (Key.yields_entry (by rfl) _ rfl b3 0 rfl e (fun V hV=>Key.ent_range (HXX.out.1.but hV (fun h=>h)))) hH ?_
  try simp only [Act.put,List.setIfInBounds_toArray,List.set_cons_zero,List.set_cons_succ]
  refine Late.Goes.takeT (i:=6) (v:=_) (by simp only [List.getElem?_toArray,List.getElem?_cons_succ,List.getElem?_cons_zero];rfl) (by kernel_rfl) (by kernel_rfl) (by kernel_rfl) (by kernel_rfl) (by kernel_rfl) (by exact fun _ _ _ h=>h) (Key.yields_entry (by rfl) _ rfl b5 0 rfl (Key.ent f) (fun V hV=>Key.ent_range (HXX.out.2.but hV (fun h=>h)))) hH ?_
  try simp only [Act.put,List.setIfInBounds_toArray,List.set_cons_zero,List.set_cons_succ]
  have HV:=Lib.hid hH
  refine Late.Goes.one (i:=5) (by kernel_rfl) (by simp only [List.getElem?_toArray,List.getElem?_cons_succ,List.getElem?_cons_zero];rfl) (fun K hK=>?_)
  clear hH
  go_simp
  go_at_call 54
  refine (HBE.out _).mono ?_
  rintro e' wc ⟨rfl,hbc⟩
  have HVC:=Lib.hid (HV.out.trans hbc (fun _ _ h=>h))
  clear hbc
  refine hK.out _ _ ?_ (fun hH=>?_)
  ·exact fun _=>HVC.out
  clear hK K
  have hH:=hH rfl
  try simp only [Act.put,List.setIfInBounds_toArray,List.set_cons_zero,List.set_cons_succ]
  refine Late.Goes.one (i:=7) (by kernel_rfl) (by simp only [List.getElem?_toArray,List.getElem?_cons_succ,List.getElem?_cons_zero];rfl) (fun K hK=>?_)
  clear hH
  go_simp
  go_at_call 54
  refine (HBO.out _).mono ?_
  rintro e' wd ⟨rfl,hbd⟩
  have HVD:=Lib.hid (HVC.out.trans hbd (fun _ _ h=>h))
  clear hbd
  refine hK.out _ _ ?_ (fun hH=>?_)
  ·exact fun _=>HVD.out
  clear hK K
  have hH:=hH rfl
  try simp only [Act.put,List.setIfInBounds_toArray,List.set_cons_zero,List.set_cons_succ]
  refine Late.tk 8 ?_ ?_ hH ?_ (hw:=by kernel_rfl);rotate_left;focus (intro wy hSw;(try dsimp only at hSw);have k0:=HC10.out wy hSw;go_simp;try (with_reducible rfl))
  refine Late.tk 9 ?_ ?_ hH ?_ (hw:=by kernel_rfl);rotate_left;focus (intro wy hSw;(try dsimp only at hSw);have k0:=HC10.out wy hSw;go_simp;try (with_reducible rfl))
  refine Late.tk 10 ?_ ?_ hH ?_ (hw:=by kernel_rfl);rotate_left;focus (intro wy hSw;(try dsimp only at hSw);have k0:=HC10.out wy hSw;go_simp;try (with_reducible rfl))
  refine Late.tk 11 ?_ ?_ hH ?_ (hw:=by kernel_rfl);rotate_left;focus (intro wy hSw;(try dsimp only at hSw);have k0:=HC10.out wy hSw;go_simp;try (with_reducible rfl))
  try simp only [Act.put,List.setIfInBounds_toArray,List.set_cons_zero,List.set_cons_succ]
  have f9:wd.frozen? ⟨s.p,10,none⟩=false:=by have:=(HM6.out.1.new HVD.out).blk.frozen 10;rw [HP1.out.1] at this;exact this
  have k9:=HC10.out _ HVD.out
  refine Late.Goes.one (i:=12) (by kernel_rfl) (by simp only [List.getElem?_toArray,List.getElem?_cons_succ,List.getElem?_cons_zero];rfl) (fun K hK=>?_)
  clear hH
  go_simp
  clear k9 f9
  have HF:=Lib.hid ((HM6.out.1.new HVD.out).step_cell 10 (.int .i64 (z+(y - x))) (B':={ B with bytes:=z+(y - x) }) rfl rfl)
  rw [HP1.out.1] at HF
  have HXX2:=Lib.hid (show (wd.setCell ⟨s.p,10,none⟩ (.int .i64 (z+(y - x)))).cell? ⟨b3,0,none⟩=some (.string e.key)∧(wd.setCell ⟨s.p,10,none⟩ (.int .i64 (z+(y - x)))).cell? ⟨b3,5,none⟩=some (.int .u64 (e.exp:Int)) from HXC.out _ ((HXX.out.1.but HVD.out (fun h=>h)).but ((But.refl (fun k=>k=s.p) wd).setCell (p:=⟨s.p,10,none⟩) rfl _) (fun e=>by
   have:=(HM6.out.1.new HVD.out).blk
   rw [HP1.out.1] at this
   exact (HXX.out.1.but HVD.out (fun h=>h)).ne_ this (by decide) e)))
  generalize wd.setCell ⟨s.p,10,none⟩ (.int .i64 (z+(y - x)))=w8 at HF HXX2 ⊢
  refine hK.out _ _ ?_ (fun _=>?_)
  ·exact fun h=>by cases h
  clear hK K
  try simp only [Act.put,List.setIfInBounds_toArray,List.set_cons_zero,List.set_cons_succ]
  refine Late.Goes.done (by kernel_rfl) ?_ _
  have HSA:=Lib.hid (HM6.out.2.trans ((Step.of_new HVD.out).trans HF.out.2))
  have k5:=HXX2.out.2
  by_cases h0:e.exp=0
  ·have hz0:((e.exp:Int) != 0)=false:=by rw [h0];rfl
   go_wp2_with fail
   go_end0
   rw [HEQ2.out]
   refine ⟨rfl,s1,m,HF.out.1,?_,HSA.out⟩
   have:=HOK.out m (.inl ⟨h0,rfl⟩)
   rw [HEQ2.out] at this
   exact this
  ·have hz0:((e.exp:Int) != 0)=true:=by simp;omega
   go_wp2_with fail
   have HPS:=Lib.hid (fun V (hV:But (fun _=>False) w8 V)=>Exp.hpush_any' (HF.out.1.new hV).heap ⟨e.exp,e.key⟩ (by have:=HML.out;omega))
   rw [HP1.out.2] at HPS
   have HC8:=Lib.hid (show w8.drew.cell? ⟨s.p,8,none⟩=some (.pointer (some ⟨s.hp,0,none⟩)) from by
    have:=(HF.out.1.new ((But.refl (fun _=>False) w8).drew)).cell 8
    rw [show (bcells { B with bytes:=z+(y - x) } s1)[8]?=some (.pointer (some ⟨s1.hp,0,none⟩)) from rfl,HP1.out.1,HP1.out.2] at this
    exact this)
   have HK0:=Lib.hid (show w8.drew.cell? ⟨b3,0,none⟩=some (.string e.key)∧w8.drew.cell? ⟨b3,5,none⟩=some (.int .u64 (e.exp:Int)) from HXX2.out)
   clear k5
   refine Late.region_goes (fun V=>V=w8.drew) (fun j=>j == 9) (by kernel_rfl) ?_ (fun hH=>?_)
   ·rfl
   refine Late.tk 0 ?_ ?_ hH ?_ (hw:=by kernel_rfl);rotate_left;focus (intro wy hSw;(try dsimp only at hSw);subst hSw;have k0:=HC8.out;have k1:=HK0.out.1;have k5:=HK0.out.2;go_simp;try (with_reducible rfl))
   refine Late.tk 1 ?_ ?_ hH ?_ (hw:=by kernel_rfl);rotate_left;focus (intro wy hSw;(try dsimp only at hSw);subst hSw;have k0:=HC8.out;have k1:=HK0.out.1;have k5:=HK0.out.2;go_simp;try (with_reducible rfl))
   refine Late.tk 2 ?_ ?_ hH ?_ (hw:=by kernel_rfl);rotate_left;focus (intro wy hSw;(try dsimp only at hSw);subst hSw;have k0:=HC8.out;have k1:=HK0.out.1;have k5:=HK0.out.2;go_simp;try (with_reducible rfl))
   refine Late.tk 3 ?_ ?_ hH ?_ (hw:=by kernel_rfl);rotate_left;focus (intro wy hSw;(try dsimp only at hSw);subst hSw;have k0:=HC8.out;have k1:=HK0.out.1;have k5:=HK0.out.2;go_simp;try (with_reducible rfl))
   refine Late.tk 4 ?_ ?_ hH ?_ (hw:=by kernel_rfl);rotate_left;focus (intro wy hSw;(try dsimp only at hSw);subst hSw;have k0:=HC8.out;have k1:=HK0.out.1;have k5:=HK0.out.2;go_simp;try (with_reducible rfl))
   refine Late.tk 5 ?_ ?_ hH ?_ (hw:=by kernel_rfl);rotate_left;focus (intro wy hSw;(try dsimp only at hSw);subst hSw;have k0:=HC8.out;have k1:=HK0.out.1;have k5:=HK0.out.2;go_simp;try (with_reducible rfl))
   refine Late.tk 6 ?_ ?_ hH ?_ (hw:=by kernel_rfl);rotate_left;focus (intro wy hSw;(try dsimp only at hSw);subst hSw;have k0:=HC8.out;have k1:=HK0.out.1;have k5:=HK0.out.2;go_simp;try (with_reducible rfl))
   refine Late.tk 7 ?_ ?_ hH ?_ (hw:=by kernel_rfl);rotate_left;focus (intro wy hSw;(try dsimp only at hSw);subst hSw;have k0:=HC8.out;have k1:=HK0.out.1;have k5:=HK0.out.2;go_simp;try (with_reducible rfl))
   refine Late.tk 8 ?_ ?_ hH ?_ (hw:=by kernel_rfl);rotate_left;focus (intro wy hSw;(try dsimp only at hSw);subst hSw;have k0:=HC8.out;have k1:=HK0.out.1;have k5:=HK0.out.2;go_simp;try (with_reducible rfl))
   try simp only [Act.put,List.setIfInBounds_toArray,List.set_cons_zero,List.set_cons_succ]
   refine Late.Goes.one (i:=9) (by kernel_rfl) (by simp only [List.getElem?_toArray,List.getElem?_cons_succ,List.getElem?_cons_zero];rfl) (fun K hK=>?_)
   clear hH
   go_simp
   go_at_call 57
   refine (HPS.out _ ((But.refl (fun _=>False) w8).drew)).mono ?_
   rintro e' w9 ⟨rfl,v',hm9,hb9,hn9⟩
   have hst:=(HF.out.1.new ((But.refl (fun _=>False) w8).drew)).step_heap (by rw [HP1.out.2];exact hm9) (by rw [HP1.out.2];exact hb9) hn9
   have HEND:=Lib.hid (show BM w9 { s1 with hv:=v' } { B with bytes:=z+(y - x) } (Key.put T e) (Exp.ins m ⟨e.exp,e.key⟩) (i+1)∧Step w s { s1 with hv:=v' } w9 from ⟨hst.1,HSA.out.trans ((Step.of_new ((But.refl (fun _=>False) w8).drew)).trans hst.2)⟩)
   clear hm9 hb9 hn9 hst
   refine hK.out _ _ ?_ (fun _=>?_)
   ·exact fun h=>by cases h
   clear hK K
   try simp only [Act.put,List.setIfInBounds_toArray,List.set_cons_zero,List.set_cons_succ]
   refine Late.Goes.done (by kernel_rfl) ?_ _
   go_wp2_with fail
   go_end0
   rw [HEQ2.out]
   refine ⟨rfl,_,_,HEND.out.1,?_,HEND.out.2⟩
   have:=HOK.out _ (.inr ⟨h0,rfl⟩)
   rw [HEQ2.out] at this
   exact this
 ·skip
  go_simp
  have HS2:=Lib.hid (show But (fun _=>False) w (W.drew.alloc (.cells (entB Key.zero) 45))∧Blk (W.drew.alloc (.cells (entB Key.zero) 45)) b3 45 (entB e)∧Blk (W.drew.alloc (.cells (entB Key.zero) 45)) W.heap.size 45 (entB Key.zero) from ⟨HS1.out.1.alloc _,HS1.out.2.but ((But.refl (fun _=>False) _).alloc _) (fun h=>h),Blk.new _ _ _⟩)
  have HS4:=Lib.hid (show w.heap.size≤W.heap.size∧b3 < W.heap.size from ⟨HB0.out.size,HX.out.lt⟩)
  change K (_:Act) (W.drew.alloc (.cells (entB Key.zero) 45))
  generalize W.drew.alloc (.cells (entB Key.zero) 45)=W2 at HS2 ⊢
  obtain ⟨b5,hb5⟩:∃ b,b=W.heap.size:=⟨_,rfl⟩
  rw [← hb5] at HS2 HS4 ⊢
  clear hb5
  refine hK.out _ _ ?_ (fun hH=>?_)
  ·exact fun _=>⟨HS2.out.1,HS2.out.2.1⟩
  clear hK K
  have hH:=hH rfl
  try simp only [Act.put,List.setIfInBounds_toArray,List.set_cons_zero,List.set_cons_succ]
  refine Late.Goes.one (i:=6) (by kernel_rfl) (by simp only [List.getElem?_toArray,List.getElem?_cons_succ,List.getElem?_cons_zero];rfl) (fun K hK=>?_)
  clear hH
  go_simp
  go_at_call 48
  refine (HGF.out _ HS2.out.1).mono ?_
  rintro e' w1 ⟨rfl,hb1⟩
  have HS3:=Lib.hid (And.intro (HS2.out.1.trans hb1 (fun _ _ h=>h)) (And.intro (HS2.out.2.1.but hb1 (fun h=>h)) (HS2.out.2.2.but hb1 (fun h=>h))))
  refine hK.out _ _ ?_ (fun hH=>?_)
  ·exact fun _=>⟨HS3.out.1,HS3.out.2.1⟩
  clear hK K
  have hH:=hH rfl
  try simp only [Act.put,List.setIfInBounds_toArray,List.set_cons_zero,List.set_cons_succ]
  refine Late.tk 7 ?_ ?_ hH ?_ (hw:=by kernel_rfl);rotate_left;focus (intro wy hSw;(try dsimp only at hSw);have k0:=HC7.out wy hSw.1;have k1:=(HXC.out wy hSw.2).1;go_simp;try (with_reducible rfl))
  refine Late.tk 8 ?_ ?_ hH ?_ (hw:=by kernel_rfl);rotate_left;focus (intro wy hSw;(try dsimp only at hSw);have k0:=HC7.out wy hSw.1;have k1:=(HXC.out wy hSw.2).1;go_simp;try (with_reducible rfl))
  refine Late.tk 9 ?_ ?_ hH ?_ (hw:=by kernel_rfl);rotate_left;focus (intro wy hSw;(try dsimp only at hSw);have k0:=HC7.out wy hSw.1;have k1:=(HXC.out wy hSw.2).1;go_simp;try (with_reducible rfl))
  try simp only [Act.put,List.setIfInBounds_toArray,List.set_cons_zero,List.set_cons_succ]
  refine Late.Goes.one (i:=11) (by kernel_rfl) (by simp only [List.getElem?_toArray,List.getElem?_cons_succ,List.getElem?_cons_zero];rfl) (fun K hK=>?_)
  clear hH
  refine Key.wp_store_blk (by rfl) 45 _ _ rfl b5 0 (Key.ecells (Key.ent f)) rfl rfl (blk_there0 HS3.out.2.2 (by rfl)) (by rw [Key.ecells_length];exact Key.entry_size) (Key.ecells_one _) ?_
  have HS5:=Lib.hid (And.intro (HS3.out.1.trans (but_setCells b5 (Key.ecells (Key.ent f)) 0 w1) (fun k hk e=>by have:=HS4.out.1;omega)) (And.intro (HS3.out.2.1.but (but_setCells b5 (Key.ecells (Key.ent f)) 0 w1) (fun e=>by have:=HS4.out.2;omega)) (blk_set0 (vs:=Key.ecells (Key.ent f)) HS3.out.2.2 (by rw [Key.ecells_length];rfl))))
  generalize w1.setCells b5 0 (Key.ecells (Key.ent f))=W5 at HS5 ⊢
  refine hK.out _ _ ?_ (fun hH=>?_)
  ·exact fun _=>⟨HS5.out.1,HS5.out.2.1⟩
  clear hK K
  have hH:=hH rfl
  try simp only [Act.put,List.setIfInBounds_toArray,List.set_cons_zero,List.set_cons_succ]
  refine Late.tk 12 ?_ ?_ hH ?_ (hw:=by kernel_rfl);rotate_left;focus (intro wy hSw;(try dsimp only at hSw);have k0:=HC7.out wy hSw.1;have k1:=(HXC.out wy hSw.2).1;go_simp;try (with_reducible rfl))
  try simp only [Act.put,List.setIfInBounds_toArray,List.set_cons_zero,List.set_cons_succ]
  refine Late.Goes.done (by kernel_rfl) ?_ _
  go_wp2_with fail
  refine Late.region_goes (fun V=>V=W5.drew) (fun j=>j == 5) (by kernel_rfl) ?_ (fun hH=>?_)
  ·rfl
  refine Late.tk 0 ?_ ?_ hH ?_;rotate_left 2
  refine Late.tk 1 ?_ ?_ hH ?_;rotate_left 2
  refine Late.tk 2 ?_ ?_ hH ?_;rotate_left 2
  refine Late.tk 3 ?_ ?_ hH ?_;rotate_left 2
  rotate_left
  any_goals (intro wy hSw;(try dsimp only at hSw);subst hSw;have k0:=HC7.out _ HS5.out.1.drew;go_simp;try (with_reducible rfl))
  try simp only [Act.put,List.setIfInBounds_toArray,List.set_cons_zero,List.set_cons_succ]
  refine Late.Goes.takeT (i:=4) (v:=_) (by simp only [List.getElem?_toArray,List.getElem?_cons_succ,List.getElem?_cons_zero];rfl) (by kernel_rfl) (by kernel_rfl) (by kernel_rfl) (by kernel_rfl) (by kernel_rfl) (by exact fun _ _ _ h=>h) (Key.yields_entry (by rfl) _ rfl b3 0 rfl e (fun V hV=>by rw [hV];exact Key.ent_range (HS5.out.2.1.but ((But.refl (fun _=>False) W5).drew) (fun h=>h)))) hH ?_
  try simp only [Act.put,List.setIfInBounds_toArray,List.set_cons_zero,List.set_cons_succ]
  refine Late.Goes.one (i:=5) (by kernel_rfl) (by simp only [List.getElem?_toArray,List.getElem?_cons_succ,List.getElem?_cons_zero];rfl) (fun K hK=>?_)
  clear hH
  go_simp
  go_at_call 61
  refine (HPU.out _ HS5.out.1.drew).mono ?_
  rintro e' w6 ⟨rfl,g',hk6,hg6,hb6⟩
  have hst:=(HH.out.new HS5.out.1.drew).step_key hk6 hb6 hg6
  obtain ⟨s1,hs1⟩:∃ s1:Bl,s1={ s with kg:=g' }:=⟨_,rfl⟩
  rw [← hs1] at hst
  have HP1:=Lib.hid (show s1.p=s.p∧s1.hp=s.hp by rw [hs1];exact ⟨rfl,rfl⟩)
  have HM6:=Lib.hid (show BM w6 s1 B (Key.put T e) m (i+1)∧Step w s s1 w6 from ⟨hst.1,(Step.of_new HS5.out.1.drew).trans hst.2⟩)
  have hnb:∀ b,(∃ c,Blk W5 b 45 c)→¬ (b=s.kp∨b=s.kg):=fun b ⟨c,hc⟩ e=>by
   have hK:=(HH.out.new HS5.out.1).key
   rcases e with e|e
   ·exact hc.ne_ hK.blk (by decide) e
   ·exact hc.ne_ hK.row (by decide) e
  have HXX:=Lib.hid (And.intro ((HS5.out.2.1.but ((But.refl (fun _=>False) W5).drew) (fun h=>h)).but hb6 (hnb b3 ⟨_,HS5.out.2.1⟩)) ((HS5.out.2.2.but ((But.refl (fun _=>False) W5).drew) (fun h=>h)).but hb6 (hnb b5 ⟨_,HS5.out.2.2⟩)))
  clear hk6 hg6 hb6 hst hs1 hnb HPU
  refine hK.out _ _ ?_ (fun _=>?_)
  ·exact fun h=>by cases h
  clear hK K
  try simp only [Act.put,List.setIfInBounds_toArray,List.set_cons_zero,List.set_cons_succ]
  refine Late.Goes.done (by kernel_rfl) ?_ _
  have HC10:=Lib.hid (fun V (hV:But (fun _=>False) w6 V)=>show V.cell? ⟨s.p,10,none⟩=some (.int .i64 z) from by
   have:=(HM6.out.1.new hV).cell 10
   rw [show (bcells B s1)[10]?=some (.int .i64 B.bytes) from rfl,← HZ.out,HP1.out.1] at this
   exact this)
  go_wp2_with fail
  refine Late.region_goes (fun V=>But (fun _=>False) w6 V) (fun j=>j == 12) (by kernel_rfl) ?_ (fun hH=>?_)
  ·exact (But.refl _ w6).drew
  refine Late.tk 0 ?_ ?_ hH ?_ (hw:=by kernel_rfl);rotate_left;focus (intro wy hSw;(try dsimp only at hSw);have k0:=HC10.out wy hSw;go_simp;try (with_reducible rfl))
  refine Late.tk 1 ?_ ?_ hH ?_ (hw:=by kernel_rfl);rotate_left;focus (intro wy hSw;(try dsimp only at hSw);have k0:=HC10.out wy hSw;go_simp;try (with_reducible rfl))
  refine Late.tk 2 ?_ ?_ hH ?_ (hw:=by kernel_rfl);rotate_left;focus (intro wy hSw;(try dsimp only at hSw);have k0:=HC10.out wy hSw;go_simp;try (with_reducible rfl))
  refine Late.tk 3 ?_ ?_ hH ?_ (hw:=by kernel_rfl);rotate_left;focus (intro wy hSw;(try dsimp only at hSw);have k0:=HC10.out wy hSw;go_simp;try (with_reducible rfl))
  try simp only [Act.put,List.setIfInBounds_toArray,List.set_cons_zero,List.set_cons_succ]
  refine Late.Goes.takeT (i:=4) (v:=_) (by simp only [List.getElem?_toArray,List.getElem?_cons_succ,List.getElem?_cons_zero];rfl) (by kernel_rfl) (by kernel_rfl) (by kernel_rfl) (by kernel_rfl) (by kernel_rfl) (by exact fun _ _ _ h=>h) (Key.yields_entry (by rfl) _ rfl b3 0 rfl e (fun V hV=>Key.ent_range (HXX.out.1.but hV (fun h=>h)))) hH ?_
  try simp only [Act.put,List.setIfInBounds_toArray,List.set_cons_zero,List.set_cons_succ]
  refine Late.Goes.takeT (i:=6) (v:=_) (by simp only [List.getElem?_toArray,List.getElem?_cons_succ,List.getElem?_cons_zero];rfl) (by kernel_rfl) (by kernel_rfl) (by kernel_rfl) (by kernel_rfl) (by kernel_rfl) (by exact fun _ _ _ h=>h) (Key.yields_entry (by rfl) _ rfl b5 0 rfl (Key.ent f) (fun V hV=>Key.ent_range (HXX.out.2.but hV (fun h=>h)))) hH ?_
  try simp only [Act.put,List.setIfInBounds_toArray,List.set_cons_zero,List.set_cons_succ]
  have HV:=Lib.hid hH
  refine Late.Goes.one (i:=5) (by kernel_rfl) (by simp only [List.getElem?_toArray,List.getElem?_cons_succ,List.getElem?_cons_zero];rfl) (fun K hK=>?_)
  clear hH
  go_simp
  go_at_call 54
  refine (HBE.out _).mono ?_
  rintro e' wc ⟨rfl,hbc⟩
  have HVC:=Lib.hid (HV.out.trans hbc (fun _ _ h=>h))
  clear hbc
  refine hK.out _ _ ?_ (fun hH=>?_)
  ·exact fun _=>HVC.out
  clear hK K
  have hH:=hH rfl
  try simp only [Act.put,List.setIfInBounds_toArray,List.set_cons_zero,List.set_cons_succ]
  refine Late.Goes.one (i:=7) (by kernel_rfl) (by simp only [List.getElem?_toArray,List.getElem?_cons_succ,List.getElem?_cons_zero];rfl) (fun K hK=>?_)
  clear hH
  go_simp
  go_at_call 54
  refine (HBO.out _).mono ?_
  rintro e' wd ⟨rfl,hbd⟩
  have HVD:=Lib.hid (HVC.out.trans hbd (fun _ _ h=>h))
  clear hbd
  refine hK.out _ _ ?_ (fun hH=>?_)
  ·exact fun _=>HVD.out
  clear hK K
  have hH:=hH rfl
  try simp only [Act.put,List.setIfInBounds_toArray,List.set_cons_zero,List.set_cons_succ]
  refine Late.tk 8 ?_ ?_ hH ?_ (hw:=by kernel_rfl);rotate_left;focus (intro wy hSw;(try dsimp only at hSw);have k0:=HC10.out wy hSw;go_simp;try (with_reducible rfl))
  refine Late.tk 9 ?_ ?_ hH ?_ (hw:=by kernel_rfl);rotate_left;focus (intro wy hSw;(try dsimp only at hSw);have k0:=HC10.out wy hSw;go_simp;try (with_reducible rfl))
  refine Late.tk 10 ?_ ?_ hH ?_ (hw:=by kernel_rfl);rotate_left;focus (intro wy hSw;(try dsimp only at hSw);have k0:=HC10.out wy hSw;go_simp;try (with_reducible rfl))
  refine Late.tk 11 ?_ ?_ hH ?_ (hw:=by kernel_rfl);rotate_left;focus (intro wy hSw;(try dsimp only at hSw);have k0:=HC10.out wy hSw;go_simp;try (with_reducible rfl))
  try simp only [Act.put,List.setIfInBounds_toArray,List.set_cons_zero,List.set_cons_succ]
  have f9:wd.frozen? ⟨s.p,10,none⟩=false:=by have:=(HM6.out.1.new HVD.out).blk.frozen 10;rw [HP1.out.1] at this;exact this
  have k9:=HC10.out _ HVD.out
  refine Late.Goes.one (i:=12) (by kernel_rfl) (by simp only [List.getElem?_toArray,List.getElem?_cons_succ,List.getElem?_cons_zero];rfl) (fun K hK=>?_)
  clear hH
  go_simp
  clear k9 f9
  have HF:=Lib.hid ((HM6.out.1.new HVD.out).step_cell 10 (.int .i64 (z+(y - x))) (B':={ B with bytes:=z+(y - x) }) rfl rfl)
  rw [HP1.out.1] at HF
  have HXX2:=Lib.hid (show (wd.setCell ⟨s.p,10,none⟩ (.int .i64 (z+(y - x)))).cell? ⟨b3,0,none⟩=some (.string e.key)∧(wd.setCell ⟨s.p,10,none⟩ (.int .i64 (z+(y - x)))).cell? ⟨b3,5,none⟩=some (.int .u64 (e.exp:Int)) from HXC.out _ ((HXX.out.1.but HVD.out (fun h=>h)).but ((But.refl (fun k=>k=s.p) wd).setCell (p:=⟨s.p,10,none⟩) rfl _) (fun e=>by
   have:=(HM6.out.1.new HVD.out).blk
   rw [HP1.out.1] at this
   exact (HXX.out.1.but HVD.out (fun h=>h)).ne_ this (by decide) e)))
  generalize wd.setCell ⟨s.p,10,none⟩ (.int .i64 (z+(y - x)))=w8 at HF HXX2 ⊢
  refine hK.out _ _ ?_ (fun _=>?_)
  ·exact fun h=>by cases h
  clear hK K
  try simp only [Act.put,List.setIfInBounds_toArray,List.set_cons_zero,List.set_cons_succ]
  refine Late.Goes.done (by kernel_rfl) ?_ _
  have HSA:=Lib.hid (HM6.out.2.trans ((Step.of_new HVD.out).trans HF.out.2))
  have k5:=HXX2.out.2
  by_cases h0:e.exp=0
  ·have hz0:((e.exp:Int) != 0)=false:=by rw [h0];rfl
   go_wp2_with fail
   go_end0
   rw [HEQ2.out]
   refine ⟨rfl,s1,m,HF.out.1,?_,HSA.out⟩
   have:=HOK.out m (.inl ⟨h0,rfl⟩)
   rw [HEQ2.out] at this
   exact this
  ·have hz0:((e.exp:Int) != 0)=true:=by simp;omega
   go_wp2_with fail
   have HPS:=Lib.hid (fun V (hV:But (fun _=>False) w8 V)=>Exp.hpush_any' (HF.out.1.new hV).heap ⟨e.exp,e.key⟩ (by have:=HML.out;omega))
   rw [HP1.out.2] at HPS
   have HC8:=Lib.hid (show w8.drew.cell? ⟨s.p,8,none⟩=some (.pointer (some ⟨s.hp,0,none⟩)) from by
    have:=(HF.out.1.new ((But.refl (fun _=>False) w8).drew)).cell 8
    rw [show (bcells { B with bytes:=z+(y - x) } s1)[8]?=some (.pointer (some ⟨s1.hp,0,none⟩)) from rfl,HP1.out.1,HP1.out.2] at this
    exact this)
   have HK0:=Lib.hid (show w8.drew.cell? ⟨b3,0,none⟩=some (.string e.key)∧w8.drew.cell? ⟨b3,5,none⟩=some (.int .u64 (e.exp:Int)) from HXX2.out)
   clear k5
   refine Late.region_goes (fun V=>V=w8.drew) (fun j=>j == 9) (by kernel_rfl) ?_ (fun hH=>?_)
   ·rfl
   refine Late.tk 0 ?_ ?_ hH ?_;rotate_left 2
   refine Late.tk 1 ?_ ?_ hH ?_;rotate_left 2
   refine Late.tk 2 ?_ ?_ hH ?_;rotate_left 2
   refine Late.tk 3 ?_ ?_ hH ?_;rotate_left 2
   refine Late.tk 4 ?_ ?_ hH ?_;rotate_left 2
   refine Late.tk 5 ?_ ?_ hH ?_;rotate_left 2
   refine Late.tk 6 ?_ ?_ hH ?_;rotate_left 2
   refine Late.tk 7 ?_ ?_ hH ?_;rotate_left 2
   refine Late.tk 8 ?_ ?_ hH ?_;rotate_left 2
   rotate_left
   any_goals (intro wy hSw;(try dsimp only at hSw);subst hSw;have k0:=HC8.out;have k1:=HK0.out.1;have k5:=HK0.out.2;go_simp;try (with_reducible rfl))
   try simp only [Act.put,List.setIfInBounds_toArray,List.set_cons_zero,List.set_cons_succ]
   refine Late.Goes.one (i:=9) (by kernel_rfl) (by simp only [List.getElem?_toArray,List.getElem?_cons_succ,List.getElem?_cons_zero];rfl) (fun K hK=>?_)
   clear hH
   go_simp
   go_at_call 57
   refine (HPS.out _ ((But.refl (fun _=>False) w8).drew)).mono ?_
   rintro e' w9 ⟨rfl,v',hm9,hb9,hn9⟩
   have hst:=(HF.out.1.new ((But.refl (fun _=>False) w8).drew)).step_heap (by rw [HP1.out.2];exact hm9) (by rw [HP1.out.2];exact hb9) hn9
   have HEND:=Lib.hid (show BM w9 { s1 with hv:=v' } { B with bytes:=z+(y - x) } (Key.put T e) (Exp.ins m ⟨e.exp,e.key⟩) (i+1)∧Step w s { s1 with hv:=v' } w9 from ⟨hst.1,HSA.out.trans ((Step.of_new ((But.refl (fun _=>False) w8).drew)).trans hst.2)⟩)
   clear hm9 hb9 hn9 hst
   refine hK.out _ _ ?_ (fun _=>?_)
   ·exact fun h=>by cases h
   clear hK K
   try simp only [Act.put,List.setIfInBounds_toArray,List.set_cons_zero,List.set_cons_succ]
   refine Late.Goes.done (by kernel_rfl) ?_ _
   go_wp2_with fail
   go_end0
   rw [HEQ2.out]
   refine ⟨rfl,_,_,HEND.out.1,?_,HEND.out.2⟩
   have:=HOK.out _ (.inr ⟨h0,rfl⟩)
   rw [HEQ2.out] at this
   exact this
end
end Go.Proofs.YtgjofinbdigmcaaGreat.Buk

/- Contracts of the bucket's Entries, Rights and Recharge. -/
import Derived.Test.YtgjofinbdigmcaaGreatG29
import Derived.Test.YtgjofinbdigmcaaGreatG30
import Derived.Test.YtgjofinbdigmcaaGreatG31
set_option linter.unusedSimpArgs false
set_option linter.unusedVariables false
set_option maxHeartbeats 4000000
set_option maxRecDepth 100000
namespace Go.Proofs.YtgjofinbdigmcaaGreat.Buk
open Go.Proofs.YtgjofinbdigmcaaGreat.Mem
open Go.ChangeShapes Go.WideShapes Go.ChangeAt Go.RowKit
structure Tkn where
 bucket:Int
 gen:Nat
 serial:Nat
 secret:Nat
structure OkK (t:Tkn):Prop where
 bucket : -9223372036854775808≤t.bucket∧t.bucket≤9223372036854775807
 gen:t.gen < 4294967296
 serial:t.serial < 4294967296
 secret:t.secret < 18446744073709551616
abbrev tkB (t:Tkn):Array Value := #[.int .i64 t.bucket,.int .u32 (t.gen:Int),.int .u32 (t.serial:Int),.int .u64 (t.secret:Int)]
def rightsOf (B:Bk) (t:Tkn):Int:=if t.bucket=B.id∧t.gen=B.gen then Rgt.has t.serial t.secret B.toks else 0
def tokC (n:Nat):Int:=27 * (n:Int)
def entC (l:List Ent):Int:=34 * (l.length:Int)+tot l
theorem tot_append (l:List Ent) (e:Ent):tot (l++[e])=tot l+of e:=by
 induction l with
 | nil=>show of e+0=0+of e;omega
 | cons x l ih=>simp only [List.cons_append,tot,ih];omega
theorem entC_snoc (l:List Ent) (e:Ent):entC (l++[e])=entC l+(34+of e):=by
 unfold entC
 rw [tot_append,List.length_append]
 simp
 omega
theorem cost_tok {r:Rcd} (hm:Rec.May r) (hk:r.kind=5):Rec.costOf r=27:=by
 unfold Rec.costOf
 rw [if_pos hm]
 unfold Rec.bytesOf Rec.more
 rw [hk]
 simp [Pack.put_length]
theorem cost_put {r:Rcd} (hm:Rec.May r) (hk:r.kind=3):Rec.costOf r=34+(r.key.size:Int)+(r.val.size:Int):=by
 unfold Rec.costOf
 rw [if_pos hm]
 unfold Rec.bytesOf Rec.more
 rw [hk]
 simp [Pack.put_length,Rec.text,strBytes_length]
 omega
section
variable {w w':World} {s:Bl} {B:Bk} {T:Tab} {m:List It} {i:Nat}
theorem ents_all (T:Tab):Key.ents T T.length=all T:=by unfold Key.ents all;rw [List.take_of_length_le (Nat.le_refl _)]
theorem entries_any (h:BM w s B T m i):Calls Tryz.prog 41 #[.pointer (some ⟨s.p,0,none⟩)] w fun e w'=>∃ a cap L,e = .returned (.slice a L.length cap)∧L.Perm (all T)∧Key.rises L∧Key.Ents w' a L∧But (fun _=>False) w w'∧(∀ g o,a=some ⟨g,o,none⟩→w.heap.size≤g):=by
 have k7:w.cell? ⟨s.p,7,none⟩=some (.pointer (some ⟨s.kp,0,none⟩)):=h.cell 7
 have HE:=Lib.hid (Key.kents_any h.key)
 rw [ents_all] at HE
 clear h
 go_enter Tryz.func41,Tryz.ntmps41
 go_wp2_with fail
 refine HE.out.mono ?_
 rintro e w1 ⟨a,cap,L,rfl,h1,h2,h3,h4,h5⟩
 have HF:=Lib.hid (And.intro h1 (And.intro h2 (And.intro h3 (And.intro h4 h5))))
 obtain ⟨n,hn⟩:∃ n,n=L.length:=⟨_,rfl⟩
 rw [← hn]
 clear h1 h2 h3 h4 h5 k7
 have HN:=Lib.hid hn
 clear hn
 go_wp2_with fail
 go_ret
 exact ⟨a,cap,L,by rw [← HN.out];rfl,HF.out.1,HF.out.2.1,HF.out.2.2.1,HF.out.2.2.2.1,HF.out.2.2.2.2⟩
theorem rights_any (h:BM w s B T m i) (t:Tkn) (ht:OkK t):Calls Tryz.prog 12 #[.pointer (some ⟨s.p,0,none⟩),.agg (tkB t)] w fun e w'=>e = .returned (.int .i64 (rightsOf B t))∧But (fun _=>False) w w':=by
 have HX:=Lib.hid (Blk.new w 28 (tkB t))
 have HB0:=Lib.hid ((But.refl (fun _=>False) w).alloc (.cells (tkB t) 28))
 have HH:=Lib.hid h
 clear h
 have HSR:=Lib.hid ht.serial
 clear ht
 go_enter Tryz.func12,Tryz.ntmps12
 go_wp2_with fail
 obtain ⟨b3,hb3⟩:∃ b,b=w.heap.size:=⟨_,rfl⟩
 change Code.wp _ _ _ _ (w.alloc (.cells (tkB t) 28))
 rw [← hb3] at HX ⊢
 generalize w.alloc (.cells (tkB t) 28)=W at HX HB0 ⊢
 clear hb3
 have HC:=Lib.hid (fun V (hV:But (fun _=>False) W V)=>(And.intro (show V.cell? ⟨s.p,0,none⟩=some (.int .i64 B.id) from ((HH.out.new HB0.out).new hV).cell 0) (And.intro (show V.cell? ⟨s.p,1,none⟩=some (.int .u32 (B.gen:Int)) from ((HH.out.new HB0.out).new hV).cell 1) (And.intro (show V.cell? ⟨s.p,9,none⟩=some (.pointer (some ⟨s.tp,0,none⟩)) from ((HH.out.new HB0.out).new hV).cell 9) (And.intro (show V.cell? ⟨b3,0,none⟩=some (.int .i64 t.bucket) from (HX.out.but hV (fun h=>h)).cell 0) (And.intro (show V.cell? ⟨b3,1,none⟩=some (.int .u32 (t.gen:Int)) from (HX.out.but hV (fun h=>h)).cell 1) (And.intro (show V.cell? ⟨b3,2,none⟩=some (.int .u32 (t.serial:Int)) from (HX.out.but hV (fun h=>h)).cell 2) (show V.cell? ⟨b3,3,none⟩=some (.int .u64 (t.secret:Int)) from (HX.out.but hV (fun h=>h)).cell 3))))))))
 by_cases h1:t.bucket=B.id
 ·have n1:(t.bucket != B.id)=false:=by simpa using h1
  by_cases h2:t.gen=B.gen
  ·have n2:((t.gen:Int) != (B.gen:Int))=false:=by rw [h2];simp
   have HR:=Lib.hid (show rightsOf B t=Rgt.has t.serial t.secret B.toks from if_pos ⟨h1,h2⟩)
   clear h1 h2
   refine Late.region_goes (fun V=>But (fun _=>False) W V) (fun _=>false) (by kernel_rfl) ?_ (fun hH=>?_)
   ·exact (But.refl _ W).drew
   refine Late.tk 0 ?_ ?_ hH ?_ (hw:=by kernel_rfl);rotate_left;focus (intro wy hSw;(try dsimp only at hSw);obtain ⟨k0,k1,k2,k3,k4,k5,k6⟩:=HC.out wy hSw;go_simp;try (with_reducible rfl))
   refine Late.tk 1 ?_ ?_ hH ?_ (hw:=by kernel_rfl);rotate_left;focus (intro wy hSw;(try dsimp only at hSw);obtain ⟨k0,k1,k2,k3,k4,k5,k6⟩:=HC.out wy hSw;go_simp;try (with_reducible rfl))
   refine Late.tk 2 ?_ ?_ hH ?_ (hw:=by kernel_rfl);rotate_left;focus (intro wy hSw;(try dsimp only at hSw);obtain ⟨k0,k1,k2,k3,k4,k5,k6⟩:=HC.out wy hSw;go_simp;try (with_reducible rfl))
   refine Late.tk 3 ?_ ?_ hH ?_ (hw:=by kernel_rfl);rotate_left;focus (intro wy hSw;(try dsimp only at hSw);obtain ⟨k0,k1,k2,k3,k4,k5,k6⟩:=HC.out wy hSw;go_simp;try (with_reducible rfl))
   refine Late.tk 4 ?_ ?_ hH ?_ (hw:=by kernel_rfl);rotate_left;focus (intro wy hSw;(try dsimp only at hSw);obtain ⟨k0,k1,k2,k3,k4,k5,k6⟩:=HC.out wy hSw;go_simp;try (with_reducible rfl))
   refine Late.tk 5 ?_ ?_ hH ?_ (hw:=by kernel_rfl);rotate_left;focus (intro wy hSw;(try dsimp only at hSw);obtain ⟨k0,k1,k2,k3,k4,k5,k6⟩:=HC.out wy hSw;go_simp;try (with_reducible rfl))
   refine Late.tk 6 ?_ ?_ hH ?_ (hw:=by kernel_rfl);rotate_left;focus (intro wy hSw;(try dsimp only at hSw);obtain ⟨k0,k1,k2,k3,k4,k5,k6⟩:=HC.out wy hSw;go_simp;try (with_reducible rfl))
   refine Late.tk 7 ?_ ?_ hH ?_ (hw:=by kernel_rfl);rotate_left;focus (intro wy hSw;(try dsimp only at hSw);obtain ⟨k0,k1,k2,k3,k4,k5,k6⟩:=HC.out wy hSw;go_simp;try (with_reducible rfl))
   refine Late.tk 8 ?_ ?_ hH ?_ (hw:=by kernel_rfl);rotate_left;focus (intro wy hSw;(try dsimp only at hSw);obtain ⟨k0,k1,k2,k3,k4,k5,k6⟩:=HC.out wy hSw;go_simp;try (with_reducible rfl))
   refine Late.tk 9 ?_ ?_ hH ?_ (hw:=by kernel_rfl);rotate_left;focus (intro wy hSw;(try dsimp only at hSw);obtain ⟨k0,k1,k2,k3,k4,k5,k6⟩:=HC.out wy hSw;go_simp;try (with_reducible rfl))
   refine Late.tk 10 ?_ ?_ hH ?_ (hw:=by kernel_rfl);rotate_left;focus (intro wy hSw;(try dsimp only at hSw);obtain ⟨k0,k1,k2,k3,k4,k5,k6⟩:=HC.out wy hSw;go_simp;try (with_reducible rfl))
   refine Late.tk 11 ?_ ?_ hH ?_ (hw:=by kernel_rfl);rotate_left;focus (intro wy hSw;(try dsimp only at hSw);obtain ⟨k0,k1,k2,k3,k4,k5,k6⟩:=HC.out wy hSw;go_simp;try (with_reducible rfl))
   refine Late.tk 12 ?_ ?_ hH ?_ (hw:=by kernel_rfl);rotate_left;focus (intro wy hSw;(try dsimp only at hSw);obtain ⟨k0,k1,k2,k3,k4,k5,k6⟩:=HC.out wy hSw;go_simp;try (with_reducible rfl))
   refine Late.tk 13 ?_ ?_ hH ?_ (hw:=by kernel_rfl);rotate_left;focus (intro wy hSw;(try dsimp only at hSw);obtain ⟨k0,k1,k2,k3,k4,k5,k6⟩:=HC.out wy hSw;go_simp;try (with_reducible rfl))
   refine Late.tk 14 ?_ ?_ hH ?_ (hw:=by kernel_rfl);rotate_left;focus (intro wy hSw;(try dsimp only at hSw);obtain ⟨k0,k1,k2,k3,k4,k5,k6⟩:=HC.out wy hSw;go_simp;try (with_reducible rfl))
   refine Late.tk 15 ?_ ?_ hH ?_ (hw:=by kernel_rfl);rotate_left;focus (intro wy hSw;(try dsimp only at hSw);obtain ⟨k0,k1,k2,k3,k4,k5,k6⟩:=HC.out wy hSw;go_simp;try (with_reducible rfl))
   try simp only [Act.put,List.setIfInBounds_toArray,List.set_cons_zero,List.set_cons_succ]
   refine Late.Goes.done (by kernel_rfl) ?_ _
   have HV:=Lib.hid hH
   clear n1 n2 hH
   go_wp2_with fail
   refine Late.region_goes (fun V=>But (fun _=>False) W V) (fun _=>false) (by kernel_rfl) ?_ (fun hH=>?_)
   ·exact HV.out.drew
   refine Late.tk 0 ?_ ?_ hH ?_;rotate_left 2
   refine Late.tk 1 ?_ ?_ hH ?_;rotate_left 2
   refine Late.tk 2 ?_ ?_ hH ?_;rotate_left 2
   refine Late.tk 3 ?_ ?_ hH ?_;rotate_left 2
   refine Late.tk 4 ?_ ?_ hH ?_;rotate_left 2
   refine Late.tk 5 ?_ ?_ hH ?_;rotate_left 2
   refine Late.tk 6 ?_ ?_ hH ?_;rotate_left 2
   refine Late.tk 7 ?_ ?_ hH ?_;rotate_left 2
   rotate_left
   any_goals (intro wy hSw;(try dsimp only at hSw);obtain ⟨k0,k1,k2,k3,k4,k5,k6⟩:=HC.out wy hSw;go_simp;try (with_reducible rfl))
   try simp only [Act.put,List.setIfInBounds_toArray,List.set_cons_zero,List.set_cons_succ]
   have HV2:=Lib.hid hH
   refine Late.Goes.one (i:=8) (by kernel_rfl) (by simp only [List.getElem?_toArray,List.getElem?_cons_succ,List.getElem?_cons_zero];rfl) (fun K hK=>?_)
   clear hH
   go_simp
   go_at_call 47
   refine (Rgt.rgt_rights ((HH.out.new HB0.out).new HV2.out).tok HSR.out).mono ?_
   rintro e w1 ⟨rfl,hb1⟩
   have HV3:=Lib.hid (HV2.out.trans hb1 (fun _ _ h=>h))
   clear hb1
   refine hK.out _ _ ?_ (fun hH=>?_)
   ·exact fun _=>HV3.out
   clear hK K
   have hH:=hH rfl
   try simp only [Act.put,List.setIfInBounds_toArray,List.set_cons_zero,List.set_cons_succ]
   refine Late.tk 9 ?_ ?_ hH ?_;rotate_left 2
   rotate_left
   any_goals (intro wy hSw;(try dsimp only at hSw);obtain ⟨k0,k1,k2,k3,k4,k5,k6⟩:=HC.out wy hSw;go_simp;try (with_reducible rfl))
   try simp only [Act.put,List.setIfInBounds_toArray,List.set_cons_zero,List.set_cons_succ]
   refine Late.Goes.done (by kernel_rfl) ?_ _
   go_wp2_with fail
   go_ret
   exact ⟨by rw [HR.out];rfl,HB0.out.trans HV3.out (fun _ _ h=>h)⟩
  ·have n2:((t.gen:Int) != (B.gen:Int))=true:=by simp;omega
   have HR:=Lib.hid (show rightsOf B t=0 from if_neg (fun h=>h2 h.2))
   clear h1 h2
   refine Late.region_goes (fun V=>But (fun _=>False) W V) (fun _=>false) (by kernel_rfl) ?_ (fun hH=>?_)
   ·exact (But.refl _ W).drew
   refine Late.tk 0 ?_ ?_ hH ?_ (hw:=by kernel_rfl);rotate_left;focus (intro wy hSw;(try dsimp only at hSw);obtain ⟨k0,k1,k2,k3,k4,k5,k6⟩:=HC.out wy hSw;go_simp;try (with_reducible rfl))
   refine Late.tk 1 ?_ ?_ hH ?_ (hw:=by kernel_rfl);rotate_left;focus (intro wy hSw;(try dsimp only at hSw);obtain ⟨k0,k1,k2,k3,k4,k5,k6⟩:=HC.out wy hSw;go_simp;try (with_reducible rfl))
   refine Late.tk 2 ?_ ?_ hH ?_ (hw:=by kernel_rfl);rotate_left;focus (intro wy hSw;(try dsimp only at hSw);obtain ⟨k0,k1,k2,k3,k4,k5,k6⟩:=HC.out wy hSw;go_simp;try (with_reducible rfl))
   refine Late.tk 3 ?_ ?_ hH ?_ (hw:=by kernel_rfl);rotate_left;focus (intro wy hSw;(try dsimp only at hSw);obtain ⟨k0,k1,k2,k3,k4,k5,k6⟩:=HC.out wy hSw;go_simp;try (with_reducible rfl))
   refine Late.tk 4 ?_ ?_ hH ?_ (hw:=by kernel_rfl);rotate_left;focus (intro wy hSw;(try dsimp only at hSw);obtain ⟨k0,k1,k2,k3,k4,k5,k6⟩:=HC.out wy hSw;go_simp;try (with_reducible rfl))
   refine Late.tk 5 ?_ ?_ hH ?_ (hw:=by kernel_rfl);rotate_left;focus (intro wy hSw;(try dsimp only at hSw);obtain ⟨k0,k1,k2,k3,k4,k5,k6⟩:=HC.out wy hSw;go_simp;try (with_reducible rfl))
   refine Late.tk 6 ?_ ?_ hH ?_ (hw:=by kernel_rfl);rotate_left;focus (intro wy hSw;(try dsimp only at hSw);obtain ⟨k0,k1,k2,k3,k4,k5,k6⟩:=HC.out wy hSw;go_simp;try (with_reducible rfl))
   refine Late.tk 7 ?_ ?_ hH ?_ (hw:=by kernel_rfl);rotate_left;focus (intro wy hSw;(try dsimp only at hSw);obtain ⟨k0,k1,k2,k3,k4,k5,k6⟩:=HC.out wy hSw;go_simp;try (with_reducible rfl))
   refine Late.tk 8 ?_ ?_ hH ?_ (hw:=by kernel_rfl);rotate_left;focus (intro wy hSw;(try dsimp only at hSw);obtain ⟨k0,k1,k2,k3,k4,k5,k6⟩:=HC.out wy hSw;go_simp;try (with_reducible rfl))
   refine Late.tk 9 ?_ ?_ hH ?_ (hw:=by kernel_rfl);rotate_left;focus (intro wy hSw;(try dsimp only at hSw);obtain ⟨k0,k1,k2,k3,k4,k5,k6⟩:=HC.out wy hSw;go_simp;try (with_reducible rfl))
   refine Late.tk 10 ?_ ?_ hH ?_ (hw:=by kernel_rfl);rotate_left;focus (intro wy hSw;(try dsimp only at hSw);obtain ⟨k0,k1,k2,k3,k4,k5,k6⟩:=HC.out wy hSw;go_simp;try (with_reducible rfl))
   refine Late.tk 11 ?_ ?_ hH ?_ (hw:=by kernel_rfl);rotate_left;focus (intro wy hSw;(try dsimp only at hSw);obtain ⟨k0,k1,k2,k3,k4,k5,k6⟩:=HC.out wy hSw;go_simp;try (with_reducible rfl))
   refine Late.tk 12 ?_ ?_ hH ?_ (hw:=by kernel_rfl);rotate_left;focus (intro wy hSw;(try dsimp only at hSw);obtain ⟨k0,k1,k2,k3,k4,k5,k6⟩:=HC.out wy hSw;go_simp;try (with_reducible rfl))
   refine Late.tk 13 ?_ ?_ hH ?_ (hw:=by kernel_rfl);rotate_left;focus (intro wy hSw;(try dsimp only at hSw);obtain ⟨k0,k1,k2,k3,k4,k5,k6⟩:=HC.out wy hSw;go_simp;try (with_reducible rfl))
   refine Late.tk 14 ?_ ?_ hH ?_ (hw:=by kernel_rfl);rotate_left;focus (intro wy hSw;(try dsimp only at hSw);obtain ⟨k0,k1,k2,k3,k4,k5,k6⟩:=HC.out wy hSw;go_simp;try (with_reducible rfl))
   refine Late.tk 15 ?_ ?_ hH ?_ (hw:=by kernel_rfl);rotate_left;focus (intro wy hSw;(try dsimp only at hSw);obtain ⟨k0,k1,k2,k3,k4,k5,k6⟩:=HC.out wy hSw;go_simp;try (with_reducible rfl))
   try simp only [Act.put,List.setIfInBounds_toArray,List.set_cons_zero,List.set_cons_succ]
   refine Late.Goes.done (by kernel_rfl) ?_ _
   have HV:=Lib.hid hH
   clear n1 n2 hH
   go_wp2_with fail
   go_ret
   exact ⟨by rw [HR.out];rfl,HB0.out.trans HV.out (fun _ _ h=>h)⟩
 ·have n1:(t.bucket != B.id)=true:=by simpa using h1
  have HR:=Lib.hid (show rightsOf B t=0 from if_neg (fun h=>h1 h.1))
  clear h1
  refine Late.region_goes (fun V=>But (fun _=>False) W V) (fun _=>false) (by kernel_rfl) ?_ (fun hH=>?_)
  ·exact (But.refl _ W).drew
  refine Late.tk 0 ?_ ?_ hH ?_ (hw:=by kernel_rfl);rotate_left;focus (intro wy hSw;(try dsimp only at hSw);obtain ⟨k0,k1,k2,k3,k4,k5,k6⟩:=HC.out wy hSw;go_simp;try (with_reducible rfl))
  refine Late.tk 1 ?_ ?_ hH ?_ (hw:=by kernel_rfl);rotate_left;focus (intro wy hSw;(try dsimp only at hSw);obtain ⟨k0,k1,k2,k3,k4,k5,k6⟩:=HC.out wy hSw;go_simp;try (with_reducible rfl))
  refine Late.tk 2 ?_ ?_ hH ?_ (hw:=by kernel_rfl);rotate_left;focus (intro wy hSw;(try dsimp only at hSw);obtain ⟨k0,k1,k2,k3,k4,k5,k6⟩:=HC.out wy hSw;go_simp;try (with_reducible rfl))
  refine Late.tk 3 ?_ ?_ hH ?_ (hw:=by kernel_rfl);rotate_left;focus (intro wy hSw;(try dsimp only at hSw);obtain ⟨k0,k1,k2,k3,k4,k5,k6⟩:=HC.out wy hSw;go_simp;try (with_reducible rfl))
  refine Late.tk 4 ?_ ?_ hH ?_ (hw:=by kernel_rfl);rotate_left;focus (intro wy hSw;(try dsimp only at hSw);obtain ⟨k0,k1,k2,k3,k4,k5,k6⟩:=HC.out wy hSw;go_simp;try (with_reducible rfl))
  refine Late.tk 5 ?_ ?_ hH ?_ (hw:=by kernel_rfl);rotate_left;focus (intro wy hSw;(try dsimp only at hSw);obtain ⟨k0,k1,k2,k3,k4,k5,k6⟩:=HC.out wy hSw;go_simp;try (with_reducible rfl))
  refine Late.tk 6 ?_ ?_ hH ?_ (hw:=by kernel_rfl);rotate_left;focus (intro wy hSw;(try dsimp only at hSw);obtain ⟨k0,k1,k2,k3,k4,k5,k6⟩:=HC.out wy hSw;go_simp;try (with_reducible rfl))
  refine Late.tk 7 ?_ ?_ hH ?_ (hw:=by kernel_rfl);rotate_left;focus (intro wy hSw;(try dsimp only at hSw);obtain ⟨k0,k1,k2,k3,k4,k5,k6⟩:=HC.out wy hSw;go_simp;try (with_reducible rfl))
  try simp only [Act.put,List.setIfInBounds_toArray,List.set_cons_zero,List.set_cons_succ]
  refine Late.tn 8 hH ?_
  try simp only [Act.put,List.setIfInBounds_toArray,List.set_cons_zero,List.set_cons_succ]
  refine Late.tn 9 hH ?_
  try simp only [Act.put,List.setIfInBounds_toArray,List.set_cons_zero,List.set_cons_succ]
  refine Late.tn 10 hH ?_
  try simp only [Act.put,List.setIfInBounds_toArray,List.set_cons_zero,List.set_cons_succ]
  refine Late.tn 11 hH ?_
  try simp only [Act.put,List.setIfInBounds_toArray,List.set_cons_zero,List.set_cons_succ]
  refine Late.tn 12 hH ?_
  try simp only [Act.put,List.setIfInBounds_toArray,List.set_cons_zero,List.set_cons_succ]
  refine Late.tn 13 hH ?_
  try simp only [Act.put,List.setIfInBounds_toArray,List.set_cons_zero,List.set_cons_succ]
  refine Late.tn 14 hH ?_
  try simp only [Act.put,List.setIfInBounds_toArray,List.set_cons_zero,List.set_cons_succ]
  refine Late.tk 15 ?_ ?_ hH ?_ (hw:=by kernel_rfl);rotate_left;focus (intro wy hSw;(try dsimp only at hSw);obtain ⟨k0,k1,k2,k3,k4,k5,k6⟩:=HC.out wy hSw;go_simp;try (with_reducible rfl))
  try simp only [Act.put,List.setIfInBounds_toArray,List.set_cons_zero,List.set_cons_succ]
  refine Late.Goes.done (by kernel_rfl) ?_ _
  have HV:=Lib.hid hH
  clear n1 hH
  go_wp2_with fail
  go_ret
  exact ⟨by rw [HR.out];rfl,HB0.out.trans HV.out (fun _ _ h=>h)⟩
def chargeOf (B:Bk) (T:Tab):Int:=tokC B.toks.length+(34 * (Key.cnt T:Int)+tot (all T))
theorem may_tokR {id:Int} {gen:Nat} {x:Rgt.Tok} (hid:0≤id∧id < 64) (hg:1≤gen) (hx:Rgt.Ok x):Rec.May (tokR id gen x) :=
 ⟨by show (1:Int)≤5;omega,by show (5:Int)≤7;omega,hid.1,hid.2,hg,by simp [tokR,Rec.named],by simp only [tokR,Rec.fits];exact hx.r⟩
def putS (id:Int) (gen:Nat) (key val:ByteArray) (ver exp:Nat):Rcd:=⟨3,id,gen,0,0,0,0,0,0,0,key,val,ver,exp⟩
theorem may_putS {id:Int} {gen:Nat} {key val:ByteArray} {ver exp:Nat} (hid:0≤id∧id < 64) (hg:1≤gen) (hk:1≤key.size∧key.size≤64) (hv:val.size≤1000):Rec.May (putS id gen key val ver exp) :=
 ⟨by show (1:Int)≤3;omega,by show (3:Int)≤7;omega,hid.1,hid.2,hg,by simp [putS,Rec.named],by simp [putS,Rec.fits,Rec.keyMay];omega⟩
theorem is_putS {id:Int} {gen:Nat} {key val:ByteArray} {ver exp:Nat} (hid:0≤id∧id < 64) (hg:gen < 4294967296) (hk:key.size≤64) (hv:val.size≤1000) (h1:ver < 18446744073709551616) (h2:exp < 18446744073709551616):Rec.Is (putS id gen key val ver exp):=by
 unfold putS
 constructor <;> (try dsimp only) <;> omega
theorem dashes_size:(⟨(Lib.repeatL (ByteArray.mk #[45]).data.toList 1000).toArray⟩:ByteArray).size=1000:=by
 show ((Lib.repeatL (ByteArray.mk #[45]).data.toList 1000).toArray).size=1000
 rw [List.size_toArray,Lib.repeatL_length]
 rfl
theorem recharge_any (h:BM w s B T m i) (o:Ok B T m i) (hid:0≤B.id∧B.id < 64) (hgn:1≤B.gen):Calls Tryz.prog 16 #[.pointer (some ⟨s.p,0,none⟩)] w fun e w'=>e = .returned (.tuple #[])∧BM w' s { B with charged:=chargeOf B T } T m i∧Step w s s w':=by
 have k11:w.cell? ⟨s.p,11,none⟩=some (.int .i64 B.charged):=h.cell 11
 have f11:w.frozen? ⟨s.p,11,none⟩=false:=h.blk.frozen 11
 have HO:=Lib.hid o
 have HGT:=Lib.hid h.tok.good
 have HM1:=Lib.hid (h.step_cell 11 (.int .i64 0) (B':={ B with charged:=0 }) rfl rfl)
 have HLT:=Lib.hid h.lt
 have hln:B.toks.length≤100:=h.tok.good.len
 have HGO:=Lib.hid h.key.good
 have hi4:i≤400:=h.key.few
 clear h o
 go_enter Tryz.func16,Tryz.ntmps16
 go_wp2_with fail
 change Calls _ _ _ (w.setCell ⟨s.p,11,none⟩ (.int .i64 0)) _
 clear k11 f11
 have hsz:(w.setCell ⟨s.p,11,none⟩ (.int .i64 0)).heap.size=w.heap.size:=by simp
 have HSZ:=Lib.hid hsz
 clear hsz
 generalize w.setCell ⟨s.p,11,none⟩ (.int .i64 0)=w1 at HM1 HSZ ⊢
 refine (tokens_at HM1.out.1 HO.out.id HO.out.gen).mono ?_
 rintro e w2 ⟨a,cp,rfl,hrec,hgb,hb2⟩
 obtain ⟨n,hn⟩:∃ n,n=B.toks.length:=⟨_,rfl⟩
 rw [show ({ B with charged:=0 }:Bk).toks.length=n from hn.symm] at hgb ⊢
 have HN:=Lib.hid hn
 have HRC:=Lib.hid (show Rec.Recs w2 a (B.toks.map (tokR B.id B.gen))∧(∀ b off,a=some ⟨b,off,none⟩→0 < n→¬ Foot s b) from ⟨hrec,fun b off ha h0 hf=>by
  have h1:=hgb b off ha h0
  have h2:=HLT.out b hf
  rw [HSZ.out] at h1
  omega⟩)
 have HST:=Lib.hid (show BM w2 s { B with charged:=tokC 0 } T m i∧Step w s s w2 from ⟨HM1.out.1.new hb2,HM1.out.2.trans (Step.of_new hb2)⟩)
 rw [← hn] at hln
 clear hrec hgb hb2 hn
 go_wp2_with fail
 go_loopw [13] (fun v wr=>∃ k:Nat,k≤n∧v = .int .i64 (k:Int)∧BM wr s { B with charged:=tokC k } T m i∧Step w s s wr∧Rec.Recs wr a (B.toks.map (tokR B.id B.gen))) (fun v _=>n - (intOf v).toNat)
 case atStart=>exact ⟨0,Nat.zero_le _,rfl,HST.out.1,HST.out.2,HRC.out.1⟩
 case round =>
  obtain ⟨k,hk,rfl,hm,hst,hre⟩:=hrel
  have HM:=Lib.hid (And.intro hm hst)
  by_cases hlt:k < n
  ·have hki:(k:Int) < (n:Int):=by omega
   have hkT:k < B.toks.length:=by rw [← HN.out];exact hlt
   have hkL:k < (B.toks.map (tokR B.id B.gen)).length:=by rw [List.length_map];exact hkT
   obtain ⟨g,off,ha2,hglt,hce⟩:=hre.2 (by omega)
   have hck:=hce k hkL
   have hri:=hre.1 _ (List.getElem_mem hkL)
   obtain ⟨r,hr⟩:∃ r,r=(B.toks.map (tokR B.id B.gen))[k]:=⟨_,rfl⟩
   have hrx:r=tokR B.id B.gen (B.toks[k]):=by rw [hr,List.getElem_map]
   rw [← hr] at hck hri
   have hco:Rec.costOf r=27:=cost_tok (by rw [hrx];exact may_tokR hid hgn (HGT.out.ok _ (List.getElem_mem hkT))) (by rw [hrx];rfl)
   have HRI:=Lib.hid (And.intro hri hco)
   obtain ⟨e0,e1,e2,e3,e4,e5,e6,e7,e8,e9,e10,e11,e12,e13⟩:=Rec.cells_at hck
   subst ha2
   have HNF:=Lib.hid (HRC.out.2 g off rfl (by omega))
   have HRE:=Lib.hid hre
   clear hck hri hr hrx hce hco hm hst hre
   have HX:=Lib.hid (Blk.new wr 35 (Rec.cells r))
   have HB:=Lib.hid ((But.refl (fun _=>False) wr).alloc (.cells (Rec.cells r) 35))
   go_wp2_with fail
   change Code.wp _ _ _ _ (wr.alloc (.cells (Rec.cells r) 35))
   obtain ⟨b3,hb3⟩:∃ b,b=wr.heap.size:=⟨_,rfl⟩
   rw [← hb3] at HX ⊢
   generalize wr.alloc (.cells (Rec.cells r) 35)=W at HX HB ⊢
   clear hb3 e0 e1 e2 e3 e4 e5 e6 e7 e8 e9 e10 e11 e12 e13
   have HCZ:=Lib.hid (fun V (hV:But (fun _=>False) W V)=>show V.cell? ⟨s.p,11,none⟩=some (.int .i64 (tokC k)) from ((HM.out.1.new HB.out).new hV).cell 11)
   have HRZ:=Lib.hid (fun V (hV:But (fun _=>False) W V)=>show V.rangeAt b3 0 (rcs r) from blk_range0 (A:=[]) (B:=rcs r) (HX.out.but hV (fun h=>h)))
   have ww:IntKind.i64.wrap (tokC k+27)=tokC (k+1):=by unfold tokC;rw [IntWalk.i64_in _ (by omega)];omega
   refine Late.region_goes (fun V=>But (fun _=>False) W V) (fun j=>j == 9) (by kernel_rfl) ?_ (fun hH=>?_)
   ·exact (But.refl _ W).drew
   refine Late.tk 0 ?_ ?_ hH ?_;rotate_left 2
   refine Late.tk 1 ?_ ?_ hH ?_;rotate_left 2
   refine Late.tk 2 ?_ ?_ hH ?_;rotate_left 2
   refine Late.tk 3 ?_ ?_ hH ?_;rotate_left 2
   rotate_left
   any_goals (intro wy hSw;(try dsimp only at hSw);have k0:=HCZ.out wy hSw;go_simp;try (with_reducible rfl))
   try simp only [Act.put,List.setIfInBounds_toArray,List.set_cons_zero,List.set_cons_succ]
   refine Late.Goes.takeT (i:=4) (v:=_) (by simp only [List.getElem?_toArray,List.getElem?_cons_succ,List.getElem?_cons_zero];rfl) (by kernel_rfl) (by kernel_rfl) (by kernel_rfl) (by kernel_rfl) (by kernel_rfl) (by exact fun _ _ _ h=>h) (yields_rec (by rfl) _ rfl b3 0 rfl r (fun V hV=>HRZ.out V hV)) hH ?_
   try simp only [Act.put,List.setIfInBounds_toArray,List.set_cons_zero,List.set_cons_succ]
   have HVz:=Lib.hid hH
   refine Late.Goes.one (i:=5) (by kernel_rfl) (by simp only [List.getElem?_toArray,List.getElem?_cons_succ,List.getElem?_cons_zero];rfl) (fun K hK=>?_)
   clear hH
   go_simp
   go_at_call 34
   refine (Rec.cost_any r HRI.out.1 _).mono ?_
   rintro e wy ⟨rfl,hbe⟩
   rw [HRI.out.2]
   have HVy:=Lib.hid (HVz.out.trans (But.of_new hbe:But (fun _=>False) _ _) (fun _ _ h=>h))
   clear hbe
   refine hK.out _ _ ?_ (fun hH=>?_)
   ·exact fun _=>HVy.out
   clear hK K
   have hH:=hH rfl
   try simp only [Act.put,List.setIfInBounds_toArray,List.set_cons_zero,List.set_cons_succ]
   refine Late.tk 6 ?_ ?_ hH ?_;rotate_left 2
   refine Late.tk 7 ?_ ?_ hH ?_;rotate_left 2
   refine Late.tk 8 ?_ ?_ hH ?_;rotate_left 2
   rotate_left
   any_goals (intro wy hSw;(try dsimp only at hSw);have k0:=HCZ.out wy hSw;go_simp;try (with_reducible rfl))
   try simp only [Act.put,List.setIfInBounds_toArray,List.set_cons_zero,List.set_cons_succ]
   have HBMy:=Lib.hid ((HM.out.1.new HB.out).new HVy.out)
   have f9:wy.frozen? ⟨s.p,11,none⟩=false:=HBMy.out.blk.frozen 11
   have k9:=HCZ.out _ HVy.out
   refine Late.Goes.one (i:=9) (by kernel_rfl) (by simp only [List.getElem?_toArray,List.getElem?_cons_succ,List.getElem?_cons_zero];rfl) (fun K hK=>?_)
   clear hH
   go_simp
   clear k9 f9
   have HF:=Lib.hid (HBMy.out.step_cell 11 (.int .i64 (tokC (k+1))) (B':={ B with charged:=tokC (k+1) }) rfl rfl)
   have HREC:=Lib.hid (((HRE.out.below HB.out.new).below HVy.out.new).but HF.out.2.but (fun p hp hf=>by
    injection hp with hp
    rw [← hp] at hf
    exact HNF.out hf))
   generalize wy.setCell ⟨s.p,11,none⟩ (.int .i64 (tokC (k+1)))=wx at HF HREC ⊢
   refine hK.out _ _ ?_ (fun _=>?_)
   ·exact fun h=>by cases h
   clear hK K
   try simp only [Act.put,List.setIfInBounds_toArray,List.set_cons_zero,List.set_cons_succ]
   refine Late.Goes.done (by kernel_rfl) ?_ _
   clear ww
   go_wp2_with fail
   go_roundw
   case rel=>exact ⟨k+1,by omega,by go_num,HF.out.1,HM.out.2.trans ((Step.of_new HB.out).trans ((Step.of_new HVy.out).trans HF.out.2)),HREC.out⟩
   case measure=>simp [intOf];omega
  ·have hkn:k=n:=by omega
   subst hkn
   clear hm hst hre
   have HRP:=Lib.hid (Tryz.strings_Repeat (ByteArray.mk #[45]) 1000 wr (by omega) (by show 1 * 1000≤_;omega))
   go_wp2_with fail
   refine HRP.out.mono ?_
   rintro e w5 ⟨rfl,hb5⟩
   obtain ⟨vs,hvs⟩:∃ v,v=(⟨(Lib.repeatL (ByteArray.mk #[45]).data.toList 1000).toArray⟩:ByteArray):=⟨_,rfl⟩
   have hvz:vs.size=1000:=by rw [hvs];exact dashes_size
   rw [← hvs]
   clear hvs
   have hb5':But (fun _=>False) wr w5:=But.of_new hb5
   have HM5:=Lib.hid (And.intro (HM.out.1.new hb5') (HM.out.2.trans (Step.of_new hb5')))
   clear hb5 hb5' HRP
   have HEN:=Lib.hid (entries_any HM5.out.1)
   go_wp2_with fail
   refine HEN.out.mono ?_
   rintro e w6 ⟨a6,cap6,L,rfl,hperm,_,hents,hb6,hge⟩
   have hN6:L.length=Key.cnt T:=by rw [hperm.length_eq,all_length]
   have HLK:=Lib.hid (show ∀ e ∈ L,OkE e from fun e he=>HO.out.okt e (mem_all.1 (hperm.subset he)))
   have HTT:=Lib.hid (show entC L=34 * (Key.cnt T:Int)+tot (all T) from by unfold entC;rw [hN6,tot_perm hperm])
   have hcn:L.length≤400:=by rw [hN6];have:=HGO.out.few;omega
   obtain ⟨M,hM⟩:∃ M,M=L.length:=⟨_,rfl⟩
   have HMM:=Lib.hid hM
   have HST6:=Lib.hid (show BM w6 s { B with charged:=tokC k+entC (L.take 0) } T m i∧Step w s s w6∧Key.Ents w6 a6 L∧(∀ g o,a6=some ⟨g,o,none⟩→¬ Foot s g) from ⟨by
    rw [show entC (L.take 0)=0 from rfl,Int.add_zero]
    exact HM5.out.1.new hb6,HM5.out.2.trans (Step.of_new hb6),hents,fun g o ha hf=>by
    have h1:=hge g o ha
    have h2:=HM5.out.1.lt g hf
    omega⟩)
   rw [← hM] at hcn ⊢
   clear hperm hents hb6 hge hN6 hM HEN
   go_wp2_with fail
   go_loopw [31] (fun v wr=>∃ j:Nat,j≤M∧v = .int .i64 (j:Int)∧BM wr s { B with charged:=tokC k+entC (L.take j) } T m i∧Step w s s wr∧Key.Ents wr a6 L) (fun v _=>M - (intOf v).toNat)
   case atStart=>exact ⟨0,Nat.zero_le _,rfl,HST6.out.1,HST6.out.2.1,HST6.out.2.2.1⟩
   case round =>
    obtain ⟨j,hj,rfl,hm,hst,hen⟩:=hrel
    have HMJ:=Lib.hid (And.intro hm hst)
    by_cases hlt2:j < M
    ·have hji:(j:Int) < (M:Int):=by omega
     have hjL:j < L.length:=by rw [← HMM.out];exact hlt2
     obtain ⟨g,ha6,hglt,hce⟩:=hen.at_
     have hck:=fun q hq=>hce j hjL q hq
     have hok:=HLK.out _ (List.getElem_mem hjL)
     have hsn:entC (L.take (j+1))=entC (L.take j)+(34+of L[j]):=by rw [List.take_succ_eq_append_getElem hjL,entC_snoc]
     have hcb:0≤entC (L.take j)∧entC (L.take j)≤2000 * 400:=by
      have h1:=tot_ok (l:=L.take j) (fun e he=>HLK.out e (List.mem_of_mem_take he))
      have h2:(L.take j).length≤400:=by rw [List.length_take];omega
      unfold entC
      omega
     obtain ⟨e,he⟩:∃ e,e=L[j]:=⟨_,rfl⟩
     rw [← he] at hok hsn hck
     have HNF:=Lib.hid (HST6.out.2.2.2 g 0 ha6)
     subst ha6
     have HEE:=Lib.hid hen
     have e0:wr.cell? ⟨g,j * 7,none⟩=some (.string e.key):=hck 0 (by omega)
     have e1:wr.cell? ⟨g,j * 7+1,none⟩=some (.int .i64 e.seg):=hck 1 (by omega)
     have e2:wr.cell? ⟨g,j * 7+2,none⟩=some (.int .i64 e.at_):=hck 2 (by omega)
     have e3:wr.cell? ⟨g,j * 7+3,none⟩=some (.int .i64 e.len):=hck 3 (by omega)
     have e4:wr.cell? ⟨g,j * 7+4,none⟩=some (.int .u64 (e.ver:Int)):=hck 4 (by omega)
     have e5:wr.cell? ⟨g,j * 7+5,none⟩=some (.int .u64 (e.exp:Int)):=hck 5 (by omega)
     have e6:wr.cell? ⟨g,j * 7+6,none⟩=some (.int .i64 e.size):=hck 6 (by omega)
     have hkz:=hok.key
     have hsz:=hok.size
     obtain ⟨sz,hse⟩:∃ z:Nat,e.size=(z:Int):=⟨e.size.toNat,by omega⟩
     have hxs:(vs.extract 0 sz).size=sz:=by rw [ByteArray.size_extract,hvz];omega
     have hmay:=may_putS (id:=B.id) (gen:=B.gen) (ver:=e.ver) (exp:=e.exp) hid hgn hkz (show (vs.extract 0 sz).size≤1000 by rw [hxs];omega)
     have HCO:=Lib.hid (show Rec.costOf (putS B.id B.gen e.key (vs.extract 0 sz) e.ver e.exp)=34+of e∧Rec.Is (putS B.id B.gen e.key (vs.extract 0 sz) e.ver e.exp) from ⟨by
      rw [cost_put hmay rfl]
      show 34+(e.key.size:Int)+((vs.extract 0 sz).size:Int)=_
      rw [hxs,← hse]
      unfold of
      omega,is_putS (by omega) HO.out.gen (by omega) (by rw [hxs];omega) hok.ver hok.exp⟩)
     have hof:=of_ok hok
     obtain ⟨ch,hch⟩:∃ c,c=entC (L.take j):=⟨_,rfl⟩
     rw [← hch] at hsn hcb
     have ww:IntKind.i64.wrap (tokC k+ch+(34+of e))=tokC k+(ch+(34+of e)):=by unfold tokC;rw [IntWalk.i64_in _ (by omega)];omega
     have HSN:=Lib.hid hsn
     have HCH:=Lib.hid hch
     rw [← hch] at HMJ
     have HX:=Lib.hid (Blk.new wr 45 (entB e))
     have HB:=Lib.hid ((But.refl (fun _=>False) wr).alloc (.cells (entB e) 45))
     have hsi:(sz:Int)≤1000:=by omega
     have HSE:=Lib.hid hse
     clear hse
     clear hck hce he hm hst hen hsn hcb hch hkz hsz hok hmay hof hxs
     go_wp2_with fail
     change Code.wp _ _ _ _ (wr.alloc (.cells (entB e) 45))
     obtain ⟨b6,hb6⟩:∃ b,b=wr.heap.size:=⟨_,rfl⟩
     rw [← hb6] at HX ⊢
     generalize wr.alloc (.cells (entB e) 45)=W at HX HB ⊢
     clear hb6 e0 e1 e2 e3 e4 e5 e6
     have HCZ:=Lib.hid (fun V (hV:But (fun _=>False) W V)=>(And.intro (show V.cell? ⟨s.p,11,none⟩=some (.int .i64 (tokC k+ch)) from ((HMJ.out.1.new HB.out).new hV).cell 11) (And.intro (show V.cell? ⟨s.p,0,none⟩=some (.int .i64 B.id) from ((HMJ.out.1.new HB.out).new hV).cell 0) (And.intro (show V.cell? ⟨s.p,1,none⟩=some (.int .u32 (B.gen:Int)) from ((HMJ.out.1.new HB.out).new hV).cell 1) (And.intro (show V.cell? ⟨b6,0,none⟩=some (.string e.key) from (HX.out.but hV (fun h=>h)).cell 0) (And.intro (show V.cell? ⟨b6,4,none⟩=some (.int .u64 (e.ver:Int)) from (HX.out.but hV (fun h=>h)).cell 4) (And.intro (show V.cell? ⟨b6,5,none⟩=some (.int .u64 (e.exp:Int)) from (HX.out.but hV (fun h=>h)).cell 5) (show V.cell? ⟨b6,6,none⟩=some (.int .i64 (sz:Int)) from by rw [← HSE.out];exact (HX.out.but hV (fun h=>h)).cell 6))))))))
     refine Late.region_goes (fun V=>But (fun _=>False) W V) (fun j=>j == 27) (by kernel_rfl) ?_ (fun hH=>?_)
     ·exact (But.refl _ W).drew
     refine Late.tk 0 ?_ ?_ hH ?_;rotate_left 2
     refine Late.tk 1 ?_ ?_ hH ?_;rotate_left 2
     refine Late.tk 2 ?_ ?_ hH ?_;rotate_left 2
     refine Late.tk 3 ?_ ?_ hH ?_;rotate_left 2
     refine Late.tk 4 ?_ ?_ hH ?_;rotate_left 2
     refine Late.tk 5 ?_ ?_ hH ?_;rotate_left 2
     refine Late.tk 6 ?_ ?_ hH ?_;rotate_left 2
     refine Late.tk 7 ?_ ?_ hH ?_;rotate_left 2
     refine Late.tk 8 ?_ ?_ hH ?_;rotate_left 2
     refine Late.tk 9 ?_ ?_ hH ?_;rotate_left 2
     refine Late.tk 10 ?_ ?_ hH ?_;rotate_left 2
     refine Late.tk 11 ?_ ?_ hH ?_;rotate_left 2
     refine Late.tk 12 ?_ ?_ hH ?_;rotate_left 2
     refine Late.tk 13 ?_ ?_ hH ?_;rotate_left 2
     refine Late.tk 14 ?_ ?_ hH ?_;rotate_left 2
     refine Late.tk 15 ?_ ?_ hH ?_;rotate_left 2
     refine Late.tk 16 ?_ ?_ hH ?_;rotate_left 2
     refine Late.tk 17 ?_ ?_ hH ?_;rotate_left 2
     refine Late.tk 18 ?_ ?_ hH ?_;rotate_left 2
     refine Late.tk 19 ?_ ?_ hH ?_;rotate_left 2
     refine Late.tk 20 ?_ ?_ hH ?_;rotate_left 2
     refine Late.tk 21 ?_ ?_ hH ?_;rotate_left 2
     refine Late.tk 22 ?_ ?_ hH ?_;rotate_left 2
     rotate_left
     any_goals (intro wy hSw;(try dsimp only at hSw);obtain ⟨k0,k1,k2,k3,k4,k5,k6⟩:=HCZ.out wy hSw;go_simp;try (with_reducible rfl))
     try simp only [Act.put,List.setIfInBounds_toArray,List.set_cons_zero,List.set_cons_succ]
     have HVz:=Lib.hid hH
     refine Late.Goes.one (i:=23) (by kernel_rfl) (by simp only [List.getElem?_toArray,List.getElem?_cons_succ,List.getElem?_cons_zero];rfl) (fun K hK=>?_)
     clear hH
     go_simp
     go_at_call 34
     refine (Rec.cost_any (putS B.id B.gen e.key (vs.extract 0 sz) e.ver e.exp) HCO.out.2 _).mono ?_
     rintro e' wy ⟨rfl,hbe⟩
     rw [HCO.out.1]
     have HVy:=Lib.hid (HVz.out.trans (But.of_new hbe:But (fun _=>False) _ _) (fun _ _ h=>h))
     clear hbe
     refine hK.out _ _ ?_ (fun hH=>?_)
     ·exact fun _=>HVy.out
     clear hK K
     have hH:=hH rfl
     try simp only [Act.put,List.setIfInBounds_toArray,List.set_cons_zero,List.set_cons_succ]
     refine Late.tk 24 ?_ ?_ hH ?_;rotate_left 2
     refine Late.tk 25 ?_ ?_ hH ?_;rotate_left 2
     refine Late.tk 26 ?_ ?_ hH ?_;rotate_left 2
     rotate_left
     any_goals (intro wy hSw;(try dsimp only at hSw);obtain ⟨k0,k1,k2,k3,k4,k5,k6⟩:=HCZ.out wy hSw;go_simp;try (with_reducible rfl))
     try simp only [Act.put,List.setIfInBounds_toArray,List.set_cons_zero,List.set_cons_succ]
     have HBMy:=Lib.hid ((HMJ.out.1.new HB.out).new HVy.out)
     have f9:wy.frozen? ⟨s.p,11,none⟩=false:=HBMy.out.blk.frozen 11
     have k9:=(HCZ.out _ HVy.out).1
     refine Late.Goes.one (i:=27) (by kernel_rfl) (by simp only [List.getElem?_toArray,List.getElem?_cons_succ,List.getElem?_cons_zero];rfl) (fun K hK=>?_)
     clear hH
     go_simp
     clear k9 f9
     have HF:=Lib.hid (HBMy.out.step_cell 11 (.int .i64 (tokC k+(ch+(34+of e)))) (B':={ B with charged:=tokC k+(ch+(34+of e)) }) rfl rfl)
     have HENT:=Lib.hid (show Key.Ents (wy.setCell ⟨s.p,11,none⟩ (.int .i64 (tokC k+(ch+(34+of e))))) (some ⟨g,0,none⟩) L from by
      have hb:=(((But.refl (Foot s) wr).trans HB.out (fun _ _ h=>h.elim)).trans HVy.out (fun _ _ h=>h.elim)).trans' HF.out.2.but
      obtain ⟨g',ha,hg,hc⟩:=HEE.out.at_
      injection ha with ha
      injection ha with ha
      subst ha
      exact ⟨g,rfl,Nat.lt_of_lt_of_le hg hb.size,fun i hi q hq=>by rw [hb.cell (p:=⟨g,i * 7+q,none⟩) hg HNF.out];exact hc i hi q hq⟩)
     generalize wy.setCell ⟨s.p,11,none⟩ (.int .i64 (tokC k+(ch+(34+of e))))=wx at HF HENT ⊢
     refine hK.out _ _ ?_ (fun _=>?_)
     ·exact fun h=>by cases h
     clear hK K
     try simp only [Act.put,List.setIfInBounds_toArray,List.set_cons_zero,List.set_cons_succ]
     refine Late.Goes.done (by kernel_rfl) ?_ _
     clear ww
     have HFF:=Lib.hid (show BM wx s { B with charged:=tokC k+entC (L.take (j+1)) } T m i from by rw [HSN.out];exact HF.out.1)
     have HSS:=Lib.hid (HMJ.out.2.trans ((Step.of_new HB.out).trans ((Step.of_new HVy.out).trans HF.out.2)))
     go_wp2_with fail
     go_roundw
     case rel=>exact ⟨j+1,by omega,by go_num,HFF.out,HSS.out,HENT.out⟩
     case measure=>simp [intOf];omega
    ·have hjM:j=M:=by omega
     subst hjM
     have HE:=Lib.hid (show BM wr s { B with charged:=chargeOf B T } T m i∧Step w s s wr from by
      have h1:=HMJ.out.1
      rw [HMM.out,List.take_length,HTT.out,HN.out] at h1
      exact ⟨h1,hst⟩)
     clear hm hst hen
     go_wp2_with fail
     go_end0
     exact ⟨rfl,HE.out⟩
end
end Go.Proofs.YtgjofinbdigmcaaGreat.Buk

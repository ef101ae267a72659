/- Contracts of the program's Get and Len. Items by times and keys, rising lists of them, and heaps, as plain lists: an item put into a rising list, a heap's item that moves up, or down, and that what a heap gives is what a rising list gives. -/
import Derived.Test.YtgjofinbdigmcaaGreatG04
import Derived.Test.YtgjofinbdigmcaaGreatProg
import Derived.WalkKit
set_option linter.unusedSimpArgs false
set_option linter.unusedVariables false
set_option maxHeartbeats 1000000
set_option maxRecDepth 100000
section
namespace Go.Proofs.YtgjofinbdigmcaaGreat.Key
open Go.Proofs.YtgjofinbdigmcaaGreat.Mem Go.Proofs.YtgjofinbdigmcaaGreat.Fnv
open Go.ChangeShapes Go.WideShapes Go.ChangeAt Go.RowKit
theorem results_row_tmp {P:Program} {fn:Func} {p q:Tmp} {ty:TypeId} (h:fn.results = #[.cell p ty,.tmp q]) (tmps:Array Value) (w:World) (g:Nat) (t:TypeId) (cs:Array Value) (fr:Nat × Nat) (d:TypeDesc)
  (hp:tmps.getD p undef = .pointer (some ⟨g,0,none⟩)) (hg:w.heap[g]?=some (.cells cs t fr))
  (hu:P.underlying ty=some d) (hd:(match d with | .struct _ | .array _ _=>true|_=>false)=true) (hi:(P.info? ty).map (·.size)=some cs.size) :
  (results fn tmps).run P w = .ok (.tuple #[.agg cs,tmps.getD q undef]) w:=by
 have hp':tmps[p]?.getD undef = .pointer (some ⟨g,0,none⟩):=by simpa using hp
 simp [results,h,hp',asAddr,run_loadVar_row w g t ty cs fr d hg hu hd hi]
section
variable {w:World} {p g i kn:Nat} {T:Tab}
theorem klen_any (h:KAt w p g T i (cnt T)) :
  Calls Tryz.prog 51 #[.pointer (some ⟨p,0,none⟩)] w fun e w'=>e = .returned (.int .i64 (cnt T:Int))∧w=w':=by
 have c1:w.cell? ⟨p,1,none⟩=some (.int .i64 (cnt T:Int)):=h.blk.cell 1
 generalize cnt T=m at *
 clear h
 go_enter Tryz.func51,Tryz.ntmps51
 go_wp2
 go_ret
 exact ⟨rfl,rfl⟩
theorem kget_any (h:KAt w p g T i kn) (s:ByteArray) (hs:s.size≤200) :
  Calls Tryz.prog 48 #[.pointer (some ⟨p,0,none⟩),.string s] w fun e w'=>e = .returned (.tuple #[ev (ent (ask T s)),.bool (ask T s).isSome])∧But (fun _=>False) w w':=by
 have HK:=Lib.hid h
 have hfl:=find_lt (show 0 < T.length by have:=h.lt;omega) s
 obtain ⟨l1,l2⟩:=h.lt
 have HF:=fun W (hW:But (fun _=>False) w W)=>kfind_any (h.but hW (fun h=>h) (fun h=>h)) s hs
 have HL:=fun W (hW:But (fun _=>False) w W)=>row_range (h.but hW (fun h=>h) (fun h=>h)).row hfl
 have HC0:∀ W,But (fun _=>False) w W→W.cell? ⟨p,0,none⟩=some (.slice (some ⟨g,0,none⟩) T.length T.length):=fun W hW=>(h.but hW (fun h=>h) (fun h=>h)).blk.cell 0
 unfold ask
 obtain ⟨o,ho⟩:∃ o,o=look T (find T s):=⟨_,rfl⟩
 rw [← ho] at HL ⊢
 clear ho
 obtain ⟨n,hn⟩:∃ n,n=T.length:=⟨_,rfl⟩
 rw [← hn] at l1 l2 hfl HC0
 clear hn
 obtain ⟨k,hk⟩:∃ k,k=find T s:=⟨_,rfl⟩
 rw [← hk] at HF HL hfl
 clear hk h
 replace HF:=Lib.hid HF
 replace HL:=Lib.hid HL
 replace HC0:=Lib.hid HC0
 have HE0:=Lib.hid (show Blk (w.alloc (.cells (ecells zero).toArray 45)) w.heap.size 45 (ecells zero).toArray from Blk.new _ _ _)
 have HB0:=Lib.hid ((But.refl (fun _=>False) w).alloc (.cells (ecells zero).toArray 45))
 go_enter Tryz.func48,Tryz.ntmps48
 go_wp2_with fail
 obtain ⟨b4,hb4⟩:∃ b,b=w.heap.size:=⟨_,rfl⟩
 change Code.wp _ _ _ _ (w.alloc (.cells (ecells zero).toArray 45))
 rw [← hb4] at HE0 ⊢
 generalize w.alloc (.cells (ecells zero).toArray 45)=W at HE0 HB0 ⊢
 have HBL:=Lib.hid (show w.heap.size≤b4 by omega)
 clear hb4
 refine Late.region_goes (fun V=>But (fun _=>False) w V∧Blk V b4 45 (ecells zero).toArray) (fun j=>j == 10) (by kernel_rfl) ?_ (fun hH=>?_)
 ·exact ⟨HB0.out.drew,HE0.out.but ((But.refl (fun _=>False) W).drew) (fun h=>h)⟩
 refine Late.Goes.takeT (i:=0) (v:=?_) (by simp only [List.getElem?_toArray,List.getElem?_cons_succ,List.getElem?_cons_zero];rfl) (by kernel_rfl) (by kernel_rfl) (by kernel_rfl) (by kernel_rfl) (by kernel_rfl) (by exact fun _ _ _ h=>h) (Or.inl ⟨by rfl,?_⟩) hH ?_
 rotate_left
 ·(intro wy hSw;(try dsimp only at hSw);have k0:=HC0.out wy hSw.1;go_simp;try (with_reducible rfl))
 try simp only [Act.put,List.setIfInBounds_toArray,List.set_cons_zero,List.set_cons_succ]
 refine Late.Goes.takeT (i:=1) (v:=?_) (by simp only [List.getElem?_toArray,List.getElem?_cons_succ,List.getElem?_cons_zero];rfl) (by kernel_rfl) (by kernel_rfl) (by kernel_rfl) (by kernel_rfl) (by kernel_rfl) (by exact fun _ _ _ h=>h) (Or.inl ⟨by rfl,?_⟩) hH ?_
 rotate_left
 ·(intro wy hSw;(try dsimp only at hSw);have k0:=HC0.out wy hSw.1;go_simp;try (with_reducible rfl))
 try simp only [Act.put,List.setIfInBounds_toArray,List.set_cons_zero,List.set_cons_succ]
 refine Late.Goes.takeT (i:=2) (v:=?_) (by simp only [List.getElem?_toArray,List.getElem?_cons_succ,List.getElem?_cons_zero];rfl) (by kernel_rfl) (by kernel_rfl) (by kernel_rfl) (by kernel_rfl) (by kernel_rfl) (by exact fun _ _ _ h=>h) (Or.inl ⟨by rfl,?_⟩) hH ?_
 rotate_left
 ·(intro wy hSw;(try dsimp only at hSw);have k0:=HC0.out wy hSw.1;go_simp;try (with_reducible rfl))
 try simp only [Act.put,List.setIfInBounds_toArray,List.set_cons_zero,List.set_cons_succ]
 refine Late.Goes.takeT (i:=3) (v:=?_) (by simp only [List.getElem?_toArray,List.getElem?_cons_succ,List.getElem?_cons_zero];rfl) (by kernel_rfl) (by kernel_rfl) (by kernel_rfl) (by kernel_rfl) (by kernel_rfl) (by exact fun _ _ _ h=>h) (Or.inl ⟨by rfl,?_⟩) hH ?_
 rotate_left
 ·(intro wy hSw;(try dsimp only at hSw);have k0:=HC0.out wy hSw.1;go_simp;try (with_reducible rfl))
 try simp only [Act.put,List.setIfInBounds_toArray,List.set_cons_zero,List.set_cons_succ]
 refine Late.Goes.takeT (i:=4) (v:=?_) (by simp only [List.getElem?_toArray,List.getElem?_cons_succ,List.getElem?_cons_zero];rfl) (by kernel_rfl) (by kernel_rfl) (by kernel_rfl) (by kernel_rfl) (by kernel_rfl) (by exact fun _ _ _ h=>h) (Or.inl ⟨by rfl,?_⟩) hH ?_
 rotate_left
 ·(intro wy hSw;(try dsimp only at hSw);have k0:=HC0.out wy hSw.1;go_simp;try (with_reducible rfl))
 try simp only [Act.put,List.setIfInBounds_toArray,List.set_cons_zero,List.set_cons_succ]
 refine Late.Goes.takeT (i:=5) (v:=?_) (by simp only [List.getElem?_toArray,List.getElem?_cons_succ,List.getElem?_cons_zero];rfl) (by kernel_rfl) (by kernel_rfl) (by kernel_rfl) (by kernel_rfl) (by kernel_rfl) (by exact fun _ _ _ h=>h) (Or.inl ⟨by rfl,?_⟩) hH ?_
 rotate_left
 ·(intro wy hSw;(try dsimp only at hSw);have k0:=HC0.out wy hSw.1;go_simp;try (with_reducible rfl))
 try simp only [Act.put,List.setIfInBounds_toArray,List.set_cons_zero,List.set_cons_succ]
 have HS1:=Lib.hid hH
 refine Late.Goes.two (i:=6) (j:=9) (by kernel_rfl) (by simp only [List.getElem?_toArray,List.getElem?_cons_succ,List.getElem?_cons_zero];rfl) (by simp only [List.getElem?_toArray,List.getElem?_cons_succ,List.getElem?_cons_zero];rfl) (fun K hK=>?_) (fun K hK=>?_) <;> clear hH
 ·go_simp
  go_at_call 69
  refine (HF.out _ HS1.out.1).mono ?_
  rintro e w' ⟨rfl,rfl⟩
  refine hK.out _ _ ?_ (fun hH=>?_)
  ·exact fun _=>HS1.out
  clear hK K
  have hH:=hH rfl
  try simp only [Act.put,List.setIfInBounds_toArray,List.set_cons_zero,List.set_cons_succ]
  refine Late.Goes.takeT (i:=7) (v:=?_) (by simp only [List.getElem?_toArray,List.getElem?_cons_succ,List.getElem?_cons_zero];rfl) (by kernel_rfl) (by kernel_rfl) (by kernel_rfl) (by kernel_rfl) (by kernel_rfl) (by exact fun _ _ _ h=>h) (Or.inl ⟨by rfl,?_⟩) hH ?_
  rotate_left
  ·(intro wy hSw;(try dsimp only at hSw);have k0:=HC0.out wy hSw.1;go_simp;try (with_reducible rfl))
  try simp only [Act.put,List.setIfInBounds_toArray,List.set_cons_zero,List.set_cons_succ]
  refine Late.Goes.takeT (i:=8) (v:=_) (by simp only [List.getElem?_toArray,List.getElem?_cons_succ,List.getElem?_cons_zero];rfl) (by kernel_rfl) (by kernel_rfl) (by kernel_rfl) (by kernel_rfl) (by kernel_rfl) (by exact fun _ _ _ h=>h) (yields_place (by rfl) _ rfl g (k * 8) rfl o (fun V hV=>HL.out V hV.1)) hH ?_
  try simp only [Act.put,List.setIfInBounds_toArray,List.set_cons_zero,List.set_cons_succ]
  refine Late.Goes.one (i:=9) (by kernel_rfl) (by simp only [List.getElem?_toArray,List.getElem?_cons_succ,List.getElem?_cons_zero];rfl) (fun K hK=>?_)
  clear hH
  go_simp
  have HS2:=Lib.hid (show But (fun _=>False) w (W.drew.alloc (.cells (pcells none).toArray 118))∧Blk (W.drew.alloc (.cells (pcells none).toArray 118)) b4 45 (ecells zero).toArray∧Blk (W.drew.alloc (.cells (pcells none).toArray 118)) W.heap.size 118 (pcells none).toArray from ⟨HS1.out.1.alloc _,HS1.out.2.but ((But.refl (fun _=>False) _).alloc _) (fun h=>h),Blk.new _ _ _⟩)
  change K (_:Act) (W.drew.alloc (.cells (pcells none).toArray 118))
  generalize W.drew.alloc (.cells (pcells none).toArray 118)=W2 at HS2 ⊢
  refine hK.out _ _ ?_ (fun hH=>?_)
  ·exact fun _=>⟨HS2.out.1,HS2.out.2.1⟩
  clear hK K
  have hH:=hH rfl
  try simp only [Act.put,List.setIfInBounds_toArray,List.set_cons_zero,List.set_cons_succ]
  refine Late.Goes.one (i:=10) (by kernel_rfl) (by simp only [List.getElem?_toArray,List.getElem?_cons_succ,List.getElem?_cons_zero];rfl) (fun K hK=>?_)
  clear hH
  refine wp_store_blk (by rfl) 118 _ _ rfl W.heap.size 0 (pcells o) rfl rfl (blk_there0 HS2.out.2.2 (by rw [pcells_length,pcells_length])) (by rw [pcells_length];exact place_size) (pcells_one o) ?_
  have HS3:=Lib.hid (And.intro (HS2.out.1.trans (but_setCells W.heap.size (pcells o) 0 W2) (fun k hk e=>by have:=HB0.out.size;omega)) (And.intro (HS2.out.2.1.but (but_setCells W.heap.size (pcells o) 0 W2) (fun e=>by have:=HE0.out.lt;omega)) (blk_set0 (vs:=pcells o) HS2.out.2.2 (by rw [pcells_length,pcells_length]))))
  generalize W2.setCells W.heap.size 0 (pcells o)=W3 at HS3 ⊢
  refine hK.out _ _ ?_ (fun _=>?_)
  ·exact fun h=>by cases h
  clear hK K
  try simp only [Act.put,List.setIfInBounds_toArray,List.set_cons_zero,List.set_cons_succ]
  refine Late.Goes.done (by kernel_rfl) ?_ _
  go_wp2_with fail
  have HL0:=Lib.hid (fun V (hV:Blk V W.heap.size 118 (pcells o).toArray)=>show V.cell? ⟨W.heap.size,0,none⟩=some (.bool o.isSome) by rw [hV.cell 0,pcells_eq];rfl)
  refine Late.region_goes (fun V=>Blk V W.heap.size 118 (pcells o).toArray) (fun _=>false) (by kernel_rfl) ?_ (fun hH=>?_)
  ·exact HS3.out.2.2.but ((But.refl (fun _=>False) W3).drew) (fun h=>h)
  refine Late.Goes.takeT (i:=0) (v:=?_) (by simp only [List.getElem?_toArray,List.getElem?_cons_succ,List.getElem?_cons_zero];rfl) (by kernel_rfl) (by kernel_rfl) (by kernel_rfl) (by kernel_rfl) (by kernel_rfl) (by exact fun _ _ _ h=>h) (Or.inl ⟨by rfl,?_⟩) hH ?_
  rotate_left
  ·(intro wy hSw;(try dsimp only at hSw);have k0:=HL0.out wy hSw;go_simp;try (with_reducible rfl))
  try simp only [Act.put,List.setIfInBounds_toArray,List.set_cons_zero,List.set_cons_succ]
  refine Late.Goes.takeT (i:=1) (v:=_) (by simp only [List.getElem?_toArray,List.getElem?_cons_succ,List.getElem?_cons_zero];rfl) (by kernel_rfl) (by kernel_rfl) (by kernel_rfl) (by kernel_rfl) (by kernel_rfl) (by exact fun _ _ _ h=>h) (yields_entry (by rfl) _ rfl W.heap.size 1 rfl (ent o) (fun V hV=>box_entry hV)) hH ?_
  try simp only [Act.put,List.setIfInBounds_toArray,List.set_cons_zero,List.set_cons_succ]
  refine Late.Goes.takeT (i:=2) (v:=?_) (by simp only [List.getElem?_toArray,List.getElem?_cons_succ,List.getElem?_cons_zero];rfl) (by kernel_rfl) (by kernel_rfl) (by kernel_rfl) (by kernel_rfl) (by kernel_rfl) (by exact fun _ _ _ h=>h) (Or.inl ⟨by rfl,?_⟩) hH ?_
  rotate_left
  ·(intro wy hSw;(try dsimp only at hSw);have k0:=HL0.out wy hSw;go_simp;try (with_reducible rfl))
  try simp only [Act.put,List.setIfInBounds_toArray,List.set_cons_zero,List.set_cons_succ]
  refine Late.Goes.takeT (i:=3) (v:=?_) (by simp only [List.getElem?_toArray,List.getElem?_cons_succ,List.getElem?_cons_zero];rfl) (by kernel_rfl) (by kernel_rfl) (by kernel_rfl) (by kernel_rfl) (by kernel_rfl) (by exact fun _ _ _ h=>h) (Or.inl ⟨by rfl,?_⟩) hH ?_
  rotate_left
  ·(intro wy hSw;(try dsimp only at hSw);have k0:=HL0.out wy hSw;go_simp;try (with_reducible rfl))
  try simp only [Act.put,List.setIfInBounds_toArray,List.set_cons_zero,List.set_cons_succ]
  refine Late.Goes.one (i:=4) (by kernel_rfl) (by simp only [List.getElem?_toArray,List.getElem?_cons_succ,List.getElem?_cons_zero];rfl) (fun K hK=>?_)
  clear hH
  refine wp_store_blk (by rfl) 45 _ _ rfl b4 0 (ecells (ent o)) rfl rfl (blk_there0 (HS3.out.2.1.but ((But.refl (fun _=>False) W3).drew) (fun h=>h)) (by rw [ecells_length,ecells_length])) (by rw [ecells_length];exact entry_size) (ecells_one _) ?_
  have HS4:=Lib.hid (And.intro (HS3.out.1.drew.trans (but_setCells b4 (ecells (ent o)) 0 W3.drew) (fun k hk e=>by have:=HBL.out;omega)) (And.intro (blk_set0 (vs:=ecells (ent o)) (HS3.out.2.1.but ((But.refl (fun _=>False) W3).drew) (fun h=>h)) (by rw [ecells_length,ecells_length])) ((HS3.out.2.2.but ((But.refl (fun _=>False) W3).drew) (fun h=>h)).but (but_setCells b4 (ecells (ent o)) 0 W3.drew) (fun e=>by have:=HE0.out.lt;omega))))
  generalize W3.drew.setCells b4 0 (ecells (ent o))=W4 at HS4 ⊢
  refine hK.out _ _ ?_ (fun hH=>?_)
  ·exact fun _=>HS4.out.2.2
  clear hK K
  have hH:=hH rfl
  try simp only [Act.put,List.setIfInBounds_toArray,List.set_cons_zero,List.set_cons_succ]
  refine Late.Goes.takeT (i:=5) (v:=?_) (by simp only [List.getElem?_toArray,List.getElem?_cons_succ,List.getElem?_cons_zero];rfl) (by kernel_rfl) (by kernel_rfl) (by kernel_rfl) (by kernel_rfl) (by kernel_rfl) (by exact fun _ _ _ h=>h) (Or.inl ⟨by rfl,?_⟩) hH ?_
  rotate_left
  ·(intro wy hSw;(try dsimp only at hSw);have k0:=HL0.out wy hSw;go_simp;try (with_reducible rfl))
  try simp only [Act.put,List.setIfInBounds_toArray,List.set_cons_zero,List.set_cons_succ]
  refine Late.Goes.done (by kernel_rfl) ?_ _
  go_wp2_with fail
  refine bodyPost_ret (results_row_tmp rfl _ _ b4 45 (ecells (ent o)).toArray (0,0) _ rfl HS4.out.2.1 Tryz.underlying45 rfl entry_size) rfl ?_
  exact ⟨rfl,HS4.out.1⟩
 ·go_simp
  have HS2:=Lib.hid (show But (fun _=>False) w (W.drew.alloc (.cells (pcells none).toArray 118))∧Blk (W.drew.alloc (.cells (pcells none).toArray 118)) b4 45 (ecells zero).toArray∧Blk (W.drew.alloc (.cells (pcells none).toArray 118)) W.heap.size 118 (pcells none).toArray from ⟨HS1.out.1.alloc _,HS1.out.2.but ((But.refl (fun _=>False) _).alloc _) (fun h=>h),Blk.new _ _ _⟩)
  change K (_:Act) (W.drew.alloc (.cells (pcells none).toArray 118))
  generalize W.drew.alloc (.cells (pcells none).toArray 118)=W2 at HS2 ⊢
  refine hK.out _ _ ?_ (fun hH=>?_)
  ·exact fun _=>⟨HS2.out.1,HS2.out.2.1⟩
  clear hK K
  have hH:=hH rfl
  try simp only [Act.put,List.setIfInBounds_toArray,List.set_cons_zero,List.set_cons_succ]
  refine Late.Goes.one (i:=6) (by kernel_rfl) (by simp only [List.getElem?_toArray,List.getElem?_cons_succ,List.getElem?_cons_zero];rfl) (fun K hK=>?_)
  clear hH
  go_simp
  go_at_call 69
  refine (HF.out _ HS2.out.1).mono ?_
  rintro e w' ⟨rfl,rfl⟩
  refine hK.out _ _ ?_ (fun hH=>?_)
  ·exact fun _=>⟨HS2.out.1,HS2.out.2.1⟩
  clear hK K
  have hH:=hH rfl
  try simp only [Act.put,List.setIfInBounds_toArray,List.set_cons_zero,List.set_cons_succ]
  refine Late.Goes.takeT (i:=7) (v:=?_) (by simp only [List.getElem?_toArray,List.getElem?_cons_succ,List.getElem?_cons_zero];rfl) (by kernel_rfl) (by kernel_rfl) (by kernel_rfl) (by kernel_rfl) (by kernel_rfl) (by exact fun _ _ _ h=>h) (Or.inl ⟨by rfl,?_⟩) hH ?_
  rotate_left
  ·(intro wy hSw;(try dsimp only at hSw);have k0:=HC0.out wy hSw.1;go_simp;try (with_reducible rfl))
  try simp only [Act.put,List.setIfInBounds_toArray,List.set_cons_zero,List.set_cons_succ]
  refine Late.Goes.takeT (i:=8) (v:=_) (by simp only [List.getElem?_toArray,List.getElem?_cons_succ,List.getElem?_cons_zero];rfl) (by kernel_rfl) (by kernel_rfl) (by kernel_rfl) (by kernel_rfl) (by kernel_rfl) (by exact fun _ _ _ h=>h) (yields_place (by rfl) _ rfl g (k * 8) rfl o (fun V hV=>HL.out V hV.1)) hH ?_
  try simp only [Act.put,List.setIfInBounds_toArray,List.set_cons_zero,List.set_cons_succ]
  refine Late.Goes.one (i:=10) (by kernel_rfl) (by simp only [List.getElem?_toArray,List.getElem?_cons_succ,List.getElem?_cons_zero];rfl) (fun K hK=>?_)
  clear hH
  refine wp_store_blk (by rfl) 118 _ _ rfl W.heap.size 0 (pcells o) rfl rfl (blk_there0 HS2.out.2.2 (by rw [pcells_length,pcells_length])) (by rw [pcells_length];exact place_size) (pcells_one o) ?_
  have HS3:=Lib.hid (And.intro (HS2.out.1.trans (but_setCells W.heap.size (pcells o) 0 W2) (fun k hk e=>by have:=HB0.out.size;omega)) (And.intro (HS2.out.2.1.but (but_setCells W.heap.size (pcells o) 0 W2) (fun e=>by have:=HE0.out.lt;omega)) (blk_set0 (vs:=pcells o) HS2.out.2.2 (by rw [pcells_length,pcells_length]))))
  generalize W2.setCells W.heap.size 0 (pcells o)=W3 at HS3 ⊢
  refine hK.out _ _ ?_ (fun _=>?_)
  ·exact fun h=>by cases h
  clear hK K
  try simp only [Act.put,List.setIfInBounds_toArray,List.set_cons_zero,List.set_cons_succ]
  refine Late.Goes.done (by kernel_rfl) ?_ _
  go_wp2_with fail
  have HL0:=Lib.hid (fun V (hV:Blk V W.heap.size 118 (pcells o).toArray)=>show V.cell? ⟨W.heap.size,0,none⟩=some (.bool o.isSome) by rw [hV.cell 0,pcells_eq];rfl)
  refine Late.region_goes (fun V=>Blk V W.heap.size 118 (pcells o).toArray) (fun _=>false) (by kernel_rfl) ?_ (fun hH=>?_)
  ·exact HS3.out.2.2.but ((But.refl (fun _=>False) W3).drew) (fun h=>h)
  refine Late.Goes.takeT (i:=0) (v:=?_) (by simp only [List.getElem?_toArray,List.getElem?_cons_succ,List.getElem?_cons_zero];rfl) (by kernel_rfl) (by kernel_rfl) (by kernel_rfl) (by kernel_rfl) (by kernel_rfl) (by exact fun _ _ _ h=>h) (Or.inl ⟨by rfl,?_⟩) hH ?_
  rotate_left
  ·(intro wy hSw;(try dsimp only at hSw);have k0:=HL0.out wy hSw;go_simp;try (with_reducible rfl))
  try simp only [Act.put,List.setIfInBounds_toArray,List.set_cons_zero,List.set_cons_succ]
  refine Late.Goes.takeT (i:=1) (v:=_) (by simp only [List.getElem?_toArray,List.getElem?_cons_succ,List.getElem?_cons_zero];rfl) (by kernel_rfl) (by kernel_rfl) (by kernel_rfl) (by kernel_rfl) (by kernel_rfl) (by exact fun _ _ _ h=>h) (yields_entry (by rfl) _ rfl W.heap.size 1 rfl (ent o) (fun V hV=>box_entry hV)) hH ?_
  try simp only [Act.put,List.setIfInBounds_toArray,List.set_cons_zero,List.set_cons_succ]
  refine Late.Goes.takeT (i:=2) (v:=?_) (by simp only [List.getElem?_toArray,List.getElem?_cons_succ,List.getElem?_cons_zero];rfl) (by kernel_rfl) (by kernel_rfl) (by kernel_rfl) (by kernel_rfl) (by kernel_rfl) (by exact fun _ _ _ h=>h) (Or.inl ⟨by rfl,?_⟩) hH ?_
  rotate_left
  ·(intro wy hSw;(try dsimp only at hSw);have k0:=HL0.out wy hSw;go_simp;try (with_reducible rfl))
  try simp only [Act.put,List.setIfInBounds_toArray,List.set_cons_zero,List.set_cons_succ]
  refine Late.Goes.takeT (i:=3) (v:=?_) (by simp only [List.getElem?_toArray,List.getElem?_cons_succ,List.getElem?_cons_zero];rfl) (by kernel_rfl) (by kernel_rfl) (by kernel_rfl) (by kernel_rfl) (by kernel_rfl) (by exact fun _ _ _ h=>h) (Or.inl ⟨by rfl,?_⟩) hH ?_
  rotate_left
  ·(intro wy hSw;(try dsimp only at hSw);have k0:=HL0.out wy hSw;go_simp;try (with_reducible rfl))
  try simp only [Act.put,List.setIfInBounds_toArray,List.set_cons_zero,List.set_cons_succ]
  refine Late.Goes.one (i:=4) (by kernel_rfl) (by simp only [List.getElem?_toArray,List.getElem?_cons_succ,List.getElem?_cons_zero];rfl) (fun K hK=>?_)
  clear hH
  refine wp_store_blk (by rfl) 45 _ _ rfl b4 0 (ecells (ent o)) rfl rfl (blk_there0 (HS3.out.2.1.but ((But.refl (fun _=>False) W3).drew) (fun h=>h)) (by rw [ecells_length,ecells_length])) (by rw [ecells_length];exact entry_size) (ecells_one _) ?_
  have HS4:=Lib.hid (And.intro (HS3.out.1.drew.trans (but_setCells b4 (ecells (ent o)) 0 W3.drew) (fun k hk e=>by have:=HBL.out;omega)) (And.intro (blk_set0 (vs:=ecells (ent o)) (HS3.out.2.1.but ((But.refl (fun _=>False) W3).drew) (fun h=>h)) (by rw [ecells_length,ecells_length])) ((HS3.out.2.2.but ((But.refl (fun _=>False) W3).drew) (fun h=>h)).but (but_setCells b4 (ecells (ent o)) 0 W3.drew) (fun e=>by have:=HE0.out.lt;omega))))
  generalize W3.drew.setCells b4 0 (ecells (ent o))=W4 at HS4 ⊢
  refine hK.out _ _ ?_ (fun hH=>?_)
  ·exact fun _=>HS4.out.2.2
  clear hK K
  have hH:=hH rfl
  try simp only [Act.put,List.setIfInBounds_toArray,List.set_cons_zero,List.set_cons_succ]
  refine Late.Goes.takeT (i:=5) (v:=?_) (by simp only [List.getElem?_toArray,List.getElem?_cons_succ,List.getElem?_cons_zero];rfl) (by kernel_rfl) (by kernel_rfl) (by kernel_rfl) (by kernel_rfl) (by kernel_rfl) (by exact fun _ _ _ h=>h) (Or.inl ⟨by rfl,?_⟩) hH ?_
  rotate_left
  ·(intro wy hSw;(try dsimp only at hSw);have k0:=HL0.out wy hSw;go_simp;try (with_reducible rfl))
  try simp only [Act.put,List.setIfInBounds_toArray,List.set_cons_zero,List.set_cons_succ]
  refine Late.Goes.done (by kernel_rfl) ?_ _
  go_wp2_with fail
  refine bodyPost_ret (results_row_tmp rfl _ _ b4 45 (ecells (ent o)).toArray (0,0) _ rfl HS4.out.2.1 Tryz.underlying45 rfl entry_size) rfl ?_
  exact ⟨rfl,HS4.out.1⟩
end
end Go.Proofs.YtgjofinbdigmcaaGreat.Key
end
section
namespace Go.Proofs.YtgjofinbdigmcaaGreat.Exp
structure It where
 time:Nat
 key:ByteArray
deriving DecidableEq
theorem bl_irrefl:∀ a:List UInt8,Op.bytesLess a a=false
 | []=>rfl
 | x :: a=>by rw [Op.bytesLess,bl_irrefl a];simp
theorem bl_cons (x y:UInt8) (a b:List UInt8):Op.bytesLess (x :: a) (y :: b)=(decide (x < y) || (x == y && Op.bytesLess a b)):=by rw [Op.bytesLess]
theorem bl_total:∀ a b:List UInt8,Op.bytesLess a b=false→Op.bytesLess b a=false→a=b
 | [],[],_,_=>rfl
 | [],_ :: _,h,_=>by rw [Op.bytesLess] at h;cases h
 | _ :: _,[],_,h=>by rw [Op.bytesLess] at h;cases h
 | x :: a,y :: b,h1,h2=>by
  rw [bl_cons] at h1 h2
  simp only [Bool.or_eq_false_iff,decide_eq_false_iff_not,UInt8.lt_iff_toNat_lt,Bool.and_eq_false_iff,beq_eq_false_iff_ne] at h1 h2
  have he:x=y:=UInt8.toNat_inj.1 (by omega)
  subst he
  rw [bl_total a b (h1.2.resolve_left (fun h=>h rfl)) (h2.2.resolve_left (fun h=>h rfl))]
theorem bl_trans:∀ a b c:List UInt8,Op.bytesLess a b=true→Op.bytesLess b c=true→Op.bytesLess a c=true
 | _,[],_,h,_=>by rw [Op.bytesLess] at h;cases h
 | _,_ :: _,[],_,h=>by rw [Op.bytesLess] at h;cases h
 | [],_ :: _,_ :: _,_,_=>by rw [Op.bytesLess]
 | x :: a,y :: b,z :: c,h1,h2=>by
  rw [bl_cons] at h1 h2 ⊢
  simp only [Bool.or_eq_true,decide_eq_true_eq,UInt8.lt_iff_toNat_lt,Bool.and_eq_true,beq_iff_eq] at h1 h2 ⊢
  rcases h1 with h1|⟨rfl,h1⟩
  ·rcases h2 with h2|⟨rfl,h2⟩
   ·exact .inl (by omega)
   ·exact .inl h1
  ·rcases h2 with h2|⟨rfl,h2⟩
   ·exact .inl h2
   ·exact .inr ⟨rfl,bl_trans a b c h1 h2⟩
def lt (a b:It):Bool:=decide (a.time < b.time) || (a.time == b.time && Op.bytesLess a.key.toList b.key.toList)
def le (a b:It):Prop:=lt b a=false
instance (a b:It):Decidable (le a b):=by unfold le;infer_instance
theorem key_eq {a b:ByteArray} (h:a.toList=b.toList):a=b:=by
 rw [ByteArray.toList_eq,ByteArray.toList_eq] at h
 obtain ⟨⟨x⟩⟩:=a
 obtain ⟨⟨y⟩⟩:=b
 simp at h
 rw [h]
theorem lt_irrefl (a:It):lt a a=false:=by unfold lt;rw [bl_irrefl];simp
theorem le_refl (a:It):le a a:=lt_irrefl a
theorem lt_trans {a b c:It} (h1:lt a b=true) (h2:lt b c=true):lt a c=true:=by
 unfold lt at *
 simp only [Bool.or_eq_true,decide_eq_true_eq,Bool.and_eq_true,beq_iff_eq] at *
 rcases h1 with h1|⟨e1,h1⟩
 ·rcases h2 with h2|⟨e2,h2⟩
  ·exact .inl (by omega)
  ·exact .inl (by omega)
 ·rcases h2 with h2|⟨e2,h2⟩
  ·exact .inl (by omega)
  ·exact .inr ⟨by omega,bl_trans _ _ _ h1 h2⟩
theorem le_antisymm {a b:It} (h1:le a b) (h2:le b a):a=b:=by
 unfold le lt at *
 simp only [Bool.or_eq_false_iff,decide_eq_false_iff_not,Bool.and_eq_false_iff,beq_eq_false_iff_ne] at *
 have ht:a.time=b.time:=by omega
 have hk:=bl_total _ _ (h2.2.resolve_left (fun h=>h ht)) (h1.2.resolve_left (fun h=>h ht.symm))
 obtain ⟨t,k⟩:=a
 obtain ⟨t',k'⟩:=b
 simp only at ht hk
 rw [ht,key_eq hk]
theorem lt_le {a b:It} (h:lt a b=true):le a b:=by
 unfold le
 cases hb:lt b a with
 | false=>rfl
 | true =>
  have:=lt_trans h hb
  rw [lt_irrefl] at this
  cases this
theorem lt_of_not_le {a b:It} (h:¬ le a b):lt b a=true:=by
 cases hb:lt b a with
 | false=>exact absurd hb h
 | true=>rfl
theorem le_trans {a b c:It} (h1:le a b) (h2:le b c):le a c:=by
 by_cases he:a=b
 ·rw [he];exact h2
 ·by_cases he2:b=c
  ·rw [← he2];exact h1
  ·have l1:lt a b=true:=lt_of_not_le (fun h=>he (le_antisymm h1 h))
   have l2:lt b c=true:=lt_of_not_le (fun h=>he2 (le_antisymm h2 h))
   exact lt_le (lt_trans l1 l2)
def Ris (l:List It):Prop:=l.Pairwise le
def spot (l:List It) (x:It):Nat:=(l.takeWhile fun y => !lt x y).length
def ins (l:List It) (x:It):List It:=l.take (spot l x)++x :: l.drop (spot l x)
theorem ins_perm (l:List It) (x:It):(ins l x).Perm (x :: l):=by
 unfold ins
 have h:=List.perm_middle (a:=x) (l₁:=l.take (spot l x)) (l₂:=l.drop (spot l x))
 rw [List.take_append_drop] at h
 exact h
theorem spot_front {x:It}:∀ {l:List It} {i:Nat} (h:i < l.length),i < spot l x→le l[i] x
 | [],i,h,_=>by simp at h
 | y :: l,i,h,hi=>by
  unfold spot at hi
  rw [List.takeWhile_cons] at hi
  cases hy:lt x y with
  | true=>simp [hy] at hi
  | false =>
   simp only [hy,Bool.not_false,if_true,List.length_cons] at hi
   cases i with
   | zero=>exact hy
   | succ i=>exact spot_front (l:=l) (by simpa using h) (by unfold spot;omega)
theorem spot_behind {x:It}:∀ {l:List It},Ris l→∀ {i:Nat} (h:i < l.length),spot l x≤i→lt x l[i]=true
 | [],_,i,h,_=>by simp at h
 | y :: l,hr,i,h,hi=>by
  have h2:=List.pairwise_cons.1 hr
  unfold spot at hi
  rw [List.takeWhile_cons] at hi
  cases hy:lt x y with
  | true =>
   cases i with
   | zero=>exact hy
   | succ i =>
    have h3:=h2.1 (l[i]'(by simpa using h)) (List.getElem_mem _)
    show lt x (l[i]'(by simpa using h))=true
    cases h4:lt x (l[i]'(by simpa using h)) with
    | true=>rfl
    | false =>
     have:=le_trans h3 h4
     unfold le at this
     rw [hy] at this
     cases this
  | false =>
   simp only [hy,Bool.not_false,if_true,List.length_cons] at hi
   cases i with
   | zero=>omega
   | succ i=>exact spot_behind (l:=l) h2.2 (by simpa using h) (by unfold spot;omega)
theorem ins_ris {l:List It} (h:Ris l) (x:It):Ris (ins l x):=by
 unfold ins Ris
 have hr:(l.take (spot l x)++l.drop (spot l x)).Pairwise le:=by rw [List.take_append_drop];exact h
 have hp:=List.pairwise_append.1 hr
 refine List.pairwise_append.2 ⟨hp.1,List.pairwise_cons.2 ⟨fun y hy=>?_,hp.2.1⟩,fun y hy z hz=>?_⟩
 ·obtain ⟨i,hi,rfl⟩:=List.getElem_of_mem hy
  rw [List.getElem_drop]
  exact lt_le (spot_behind h _ (by omega))
 ·rcases List.mem_cons.1 hz with rfl|hz
  ·obtain ⟨i,hi,rfl⟩:=List.getElem_of_mem hy
   rw [List.length_take] at hi
   rw [List.getElem_take]
   exact spot_front _ (by omega)
  ·exact hp.2.2 y hy z hz
end Go.Proofs.YtgjofinbdigmcaaGreat.Exp
end

/- slices.Compact of items: what is there stays there, alike items one behind the other once. -/
import Derived.Test.YtgjofinbdigmcaaGreatG19
import Derived.Test.YtgjofinbdigmcaaGreatG04
import Derived.Laws.IdiomCopy
import Derived.Laws.StructEq
set_option linter.unusedSimpArgs false
set_option linter.unusedVariables false
set_option maxHeartbeats 2000000
set_option maxRecDepth 100000
namespace Go.Proofs.YtgjofinbdigmcaaGreat.Buk
open Go.Proofs.YtgjofinbdigmcaaGreat.Mem
open Go.ChangeShapes Go.WideShapes Go.ChangeAt Go.RowKit
section
variable {P:Program} {d:Nat} {xs ys:Array Value} {f:Field} {fs:List Field} {w:World}
theorem eq_end:(Op.eqFields d xs ys []).run P w = .ok true w:=by simp [Op.eqFields]
theorem eq_field {u v : Value} {c r : Bool} (hn : f.name ≠ "_") (h1 : (part f.type xs f.offset).run P w = .ok u w) (h2 : (part f.type ys f.offset).run P w = .ok v w) (h3 : (Op.equalIn d f.type u v).run P w = .ok c w) (h4 : (Op.eqFields d xs ys fs).run P w = .ok r w) :
  (Op.eqFields d xs ys (f :: fs)).run P w = .ok (c && r) w:=by
 rw [Op.eqFields,if_pos hn]
 simp only [Sem.run_bind,h1,h2,h3,Result.andThen_ok,Sem.run_ite]
 cases c
 ·simp
 ·simp [h4]
theorem part_one {t:TypeId} {cs:Array Value} {off:Nat} {u:Value} (ha:(isAgg t).run P w = .ok false w) (h:cs[off]?=some u):(part t cs off).run P w = .ok u w:=by
 unfold part
 simp [ha,h]
end
theorem str_beq (a b:ByteArray):(a.toList == b.toList)=decide (a=b):=by
 rw [ByteArray.toList_eq,ByteArray.toList_eq,Bool.eq_iff_iff]
 obtain ⟨⟨x⟩⟩:=a
 obtain ⟨⟨y⟩⟩:=b
 simp
theorem agg_plain (w:World):(isAgg 26).run Tryz.prog w = .ok false w∧(isAgg 9).run Tryz.prog w = .ok false w:=by
 refine ⟨?_,?_⟩
 ·simp [isAgg,run_underlying Tryz.underlying26]
 ·simp [isAgg,run_underlying Tryz.underlying9]
theorem item_key (a b:It):decide (a=b)=((((a.time:Int) == (b.time:Int)) && (a.key.toList == b.key.toList && true))):=by
 obtain ⟨⟩:=a
 obtain ⟨⟩:=b
 rw [str_beq,Bool.eq_iff_iff]
 simp [Int.natCast_inj]
theorem item_equal (a b:It) (w:World):(Op.equal 68 (.agg #[.int .u64 (a.time:Int),.string a.key]) (.agg #[.int .u64 (b.time:Int),.string b.key])).run Tryz.prog w = .ok (decide (a=b)) w:=by
 have h1:Tryz.prog.stoodInHeld 68=false:=by kernel_rfl
 obtain ⟨k3,k4⟩:=agg_plain w
 unfold Op.equal
 rw [show Op.maxDepth=9997+1+1+1 from rfl,run_equalIn_struct _ _ _ _ _ (by kernel_rfl) h1]
 obtain ⟨fs,hfs⟩:∃ fs,(Tryz.prog.fieldsOf 68).toList=fs:=⟨_,rfl⟩
 rw [hfs]
 simp [Program.fieldsOf,Tryz.underlying68] at hfs
 subst hfs
 rw [item_key]
 refine eq_field (by decide) (part_one k3 rfl) (part_one k3 rfl) (run_equalIn_int _ _ _ _ _ _ _ Tryz.underlying26) ?_
 exact eq_field (by decide) (part_one k4 rfl) (part_one k4 rfl) (run_equalIn_string _ _ _ _ _ Tryz.underlying9) eq_end
theorem item_eql (a b:It) (w:World):(binOp .eql 68 (.agg #[.int .u64 (a.time:Int),.string a.key]) (.agg #[.int .u64 (b.time:Int),.string b.key])).run Tryz.prog w = .ok (.bool (decide (a=b))) w:=by
 have h:=item_equal a b w
 simp [binOp,h]
theorem item_neq (a b:It) (w:World):(binOp .neq 68 (.agg #[.int .u64 (a.time:Int),.string a.key]) (.agg #[.int .u64 (b.time:Int),.string b.key])).run Tryz.prog w = .ok (.bool (!decide (a=b))) w:=by
 have h:=item_equal a b w
 simp [binOp,h]
theorem zero_item (w:World):(zeroValue 68).run Tryz.prog w = .ok (.agg #[.int .u64 0,.string ⟨#[]⟩]) w:=by kernel_rfl
theorem zero_cells (n:Nat):(Builtin.zeroCells #[.int .u64 0,.string ⟨#[]⟩] n).toList=(List.replicate n Exp.nil).flatMap Exp.icells:=by
 have h:=Key.made_flat (k:=2) (by omega) Exp.icells_length Exp.nil n #[.int .u64 0,.string ⟨#[]⟩] rfl
 show (madeCells #[.int .u64 0,.string ⟨#[]⟩] (n * 2)).toList=_
 rw [h]
theorem icl_one (l:List It):∀ v ∈ l.flatMap Exp.icells,v.oneCell'=true:=by
 intro v hv
 obtain ⟨x,_,hx⟩:=List.mem_flatMap.1 hv
 exact Exp.icells_one x v hx
theorem clear_any {w:World} (g n c o:Nat) (hn:0 < n) (ty:TypeId) (hc:∀ j,j < n * 2→(w.cell? ⟨g,o+j,none⟩).isSome=true) (hf:∀ j,w.frozen? ⟨g,j,none⟩=false) :
  (Builtin.clear_ #[65] ty #[.slice (some ⟨g,o,none⟩) n c]).run Tryz.prog w = .ok (.tuple #[]) (w.setCells g o ((List.replicate n Exp.nil).flatMap Exp.icells)):=by
 have hl:((List.replicate n Exp.nil).flatMap Exp.icells).length=n * 2:=by rw [Exp.flat_length Exp.icells_length,List.length_replicate]
 have hst:=run_storeCells_cells (P:=Tryz.prog) g o ((List.replicate n Exp.nil).flatMap Exp.icells) 0 w (fun j hj=>by rw [Nat.add_zero];exact hc j (by omega)) (fun j hj=>hf _) (icl_one _)
 simp only [Nat.add_zero] at hst
 rw [← zero_cells n] at hst ⊢
 have hz:=zero_item w
 obtain ⟨m,rfl⟩:∃ m,n=m+1:=⟨n - 1,by omega⟩
 simp [Builtin.clear_,run_underlying Tryz.underlying65,hz,hst,Value.cells]
structure CI (w:World) (g:Nat) (l:List It) (rest:List Value) (K kk:Nat) (L:List It) (wr:World):Prop where
 row:Exp.IRow wr 68 g L rest
 but:But (fun k=>k=g) w wr
 len:L.length=l.length
 high:∀ j,kk≤j→Exp.look L j=Exp.look l j
 cov:∀ x ∈ l.take K,x ∈ L.take kk
 sub:∀ x ∈ L,x ∈ l
 lt:kk < K
 le:K≤l.length
theorem take_look {l:List It} {k:Nat} (h:k < l.length):l.take (k+1)=l.take k++[Exp.look l k]:=by
 rw [List.take_succ_eq_append_getElem h,Exp.look_get h]
theorem look_in {l:List It} {k:Nat} (h:k < l.length):Exp.look l k ∈ l:=by rw [Exp.look_get h];exact List.getElem_mem h
theorem look_take {l:List It} {j k:Nat} (h:j < k) (hk:k≤l.length):Exp.look l j ∈ l.take k:=by
 rw [Exp.look_get (by omega)]
 exact List.mem_take_iff_getElem.2 ⟨j,by omega,rfl⟩
section
variable {w wr:World} {g:Nat} {l L:List It} {rest:List Value} {K kk:Nat}
theorem CI.start (h:Exp.IRow wr 68 g l rest) (hb:But (fun k=>k=g) w wr) {k:Nat} (h1:1≤k) (hk:k < l.length) (he:Exp.look l k=Exp.look l (k - 1)):CI w g l rest (k+1) k l wr:=by
 refine ⟨h,hb,rfl,fun _ _=>rfl,fun x hx=>?_,fun _ h=>h,by omega,by omega⟩
 rw [take_look hk] at hx
 rcases List.mem_append.1 hx with hx|hx
 ·exact hx
 ·rw [List.mem_singleton.1 hx,he]
  exact look_take (by omega) (by omega)
theorem CI.next (h:CI w g l rest K kk L wr) {w2:World} (hr:Exp.IRow w2 68 g L rest) (hb:But (fun k=>k=g) wr w2) (hK:K < l.length) (he:Exp.look l K=Exp.look l (K - 1)):CI w g l rest (K+1) kk L w2:=by
 have hlt:=h.lt
 refine ⟨hr,h.but.trans' hb,h.len,h.high,fun x hx=>?_,h.sub,by omega,by omega⟩
 rw [take_look hK] at hx
 rcases List.mem_append.1 hx with hx|hx
 ·exact h.cov x hx
 ·rw [List.mem_singleton.1 hx,he]
  exact h.cov _ (look_take (by omega) (by omega))
theorem CI.keep (h:CI w g l rest K kk L wr) {w2:World} (hr:Exp.IRow w2 68 g (L.set kk (Exp.look l K)) rest) (hb:But (fun k=>k=g) wr w2) (hK:K < l.length):CI w g l rest (K+1) (kk+1) (L.set kk (Exp.look l K)) w2:=by
 have hlt:=h.lt
 have hlen:=h.len
 have hkl:kk < L.length:=by omega
 refine ⟨hr,h.but.trans' hb,by rw [List.length_set];exact h.len,fun j hj=>?_,fun x hx=>?_,fun x hx=>?_,by omega,by omega⟩
 ·rw [Exp.look_set hkl,if_neg (by omega)]
  exact h.high j (by omega)
 ·rw [take_look (by rw [List.length_set];exact hkl),Exp.look_set hkl,if_pos rfl,List.take_set_of_le (by omega)]
  rw [take_look hK] at hx
  rcases List.mem_append.1 hx with hx|hx
  ·exact List.mem_append_left _ (h.cov x hx)
  ·exact List.mem_append_right _ hx
 ·rcases List.mem_or_eq_of_mem_set hx with hx|hx
  ·exact h.sub x hx
  ·rw [hx];exact look_in hK
theorem CI.at_ (h:CI w g l rest K kk L wr) {j:Nat} (h1:kk≤j) (h2:j < l.length):wr.rangeAt g (j * 2) (Exp.icells (Exp.look l j)):=by
 rw [← h.high j h1]
 exact h.row.range (by rw [h.len];exact h2)
theorem CI.done (h:CI w g l rest l.length kk L wr):∀ x,x ∈ L.take kk ↔ x ∈ l:=fun x=>⟨fun hx=>h.sub x (List.mem_of_mem_take hx),fun hx=>h.cov x (by rw [List.take_of_length_le (Nat.le_refl _)];exact hx)⟩
theorem CI.clear (h:CI w g l rest l.length kk L wr):Exp.IRow (wr.setCells g (kk * 2) ((List.replicate (l.length - kk) Exp.nil).flatMap Exp.icells)) 68 g (L.take kk) ((List.replicate (l.length - kk) Exp.nil).flatMap Exp.icells++rest):=by
 have hb:=h.row.blk
 have hlt:=h.lt
 have hlen:=h.len
 have e:Exp.rowI L++rest=Exp.rowI (L.take kk)++Exp.rowI (L.drop kk)++rest:=by
  unfold Exp.rowI
  rw [← List.flatMap_append,List.take_append_drop]
 rw [e] at hb
 have h2:=Exp.blk_setCells (vs:=(List.replicate (l.length - kk) Exp.nil).flatMap Exp.icells) hb (by
  rw [Exp.rowI_length,Exp.flat_length Exp.icells_length,List.length_replicate,List.length_drop,hlen])
 rw [Exp.rowI_length,List.length_take,Nat.min_eq_left (by omega)] at h2
 exact ⟨by rw [List.append_assoc] at h2;exact h2⟩
theorem compact_any (h:Exp.IRow w 68 g l rest) (hl:l.length≤1000) (cap:Nat) (hcap:l.length≤cap) :
  Calls Tryz.prog 56 #[.slice (some ⟨g,0,none⟩) l.length cap] w fun e w'=>∃ C rest',e = .returned (.slice (some ⟨g,0,none⟩) C.length cap)∧C.length≤l.length∧(∀ x,x ∈ C ↔ x ∈ l)∧Exp.IRow w' 68 g C rest'∧But (fun k=>k=g) w w':=by
 have HEND:=Lib.hid (fun q=>show ∃ C rest',(Ending.returned (.slice (some ⟨g,0,none⟩) l.length cap):Ending) = .returned (.slice (some ⟨g,0,none⟩) C.length cap)∧C.length≤l.length∧(∀ x,x ∈ C ↔ x ∈ l)∧Exp.IRow (w.drewN q) 68 g C rest'∧But (fun k=>k=g) w (w.drewN q) from ⟨l,rest,rfl,Nat.le_refl _,fun _=>Iff.rfl,h.drewN q,(But.refl _ w).drewN q⟩)
 have HR:=Lib.hid h
 have HDN:=Lib.hid (fun C wr (hd:∃ kk L,CI w g l rest l.length kk L wr∧C=kk)=>hd)
 have HST:=Lib.hid (fun wr (hw:Exp.IRow wr 68 g l rest) (hb:But (fun k=>k=g) w wr) k (h1:1≤k) (hk:k < l.length) (he:Exp.look l k=Exp.look l (k - 1))=>CI.start hw hb h1 hk he)
 have HRG:=Lib.hid (fun j (hj:j < l.length) V (hV:Exp.IRow V 68 g l rest)=>hV.range hj)
 have HNX:=Lib.hid (fun K kk L wr (h:CI w g l rest K kk L wr)=>h)
 obtain ⟨n,hn⟩:∃ n,n=l.length:=⟨_,rfl⟩
 have HN:=Lib.hid hn
 rw [← hn] at hl hcap HEND ⊢
 clear h hn HDN HNX
 by_cases h2:n < 2
 ·have h2i:(n:Int) < 2:=by omega
  go_enter Tryz.func56,Tryz.ntmps56
  go_wp2
  go_ret
  exact HEND.out 0
 ·have h2i:¬ (n:Int) < 2:=by omega
  have hql:=item_eql
  have hnq:=item_neq
  go_enter Tryz.func56,Tryz.ntmps56
  go_wp2
  go_loopw [3] (fun v wr=>∃ k q:Nat,1≤k∧k≤n∧v = .int .i64 (k:Int)∧wr=w.drewN q) (fun v _=>n - (intOf v).toNat)
  case atStart=>exact ⟨1,0,Nat.le_refl _,by omega,rfl,rfl⟩
  case round =>
   obtain ⟨k,q,hk1,hk,rfl,rfl⟩:=hrel
   by_cases hlt:k < n
   ·have hki:(k:Int) < (n:Int):=by omega
    obtain ⟨j,hj⟩:∃ j,k=j+1:=⟨k - 1,by omega⟩
    have hs:IntKind.i64.wrap ((k:Int) - 1)=(j:Int):=by rw [IntWalk.i64_in _ (by omega)];omega
    have hj0:(j:Int) < (n:Int):=by omega
    have HRK:=Lib.hid (fun V (hV:Exp.IRow V 68 g l rest)=>HRG.out k (by rw [← HN.out];exact hlt) V hV)
    have HRJ:=Lib.hid (fun V (hV:Exp.IRow V 68 g l rest)=>HRG.out j (by rw [← HN.out];omega) V hV)
    have HST2:=Lib.hid (fun wr hw hb (he:Exp.look l k=Exp.look l j)=>HST.out wr hw hb k hk1 (by rw [← HN.out];exact hlt) (by rw [he,hj];rfl))
    obtain ⟨x,hx⟩:∃ x,x=Exp.look l k:=⟨_,rfl⟩
    obtain ⟨y,hy⟩:∃ y,y=Exp.look l j:=⟨_,rfl⟩
    rw [← hx] at HRK HST2
    rw [← hy] at HRJ HST2
    have HJ:=Lib.hid hj
    clear hx hy hj
    go_wp2_with fail
    refine Late.region_goes (fun V=>V=(w.drewN q).drew) (fun _=>false) (by kernel_rfl) ?_ (fun hH=>?_)
    ·rfl
    refine Late.tk 0 ?_ ?_ hH ?_;rotate_left 2
    refine Late.tk 1 ?_ ?_ hH ?_;rotate_left 2
    refine Late.tk 2 ?_ ?_ hH ?_;rotate_left 2
    rotate_left
    any_goals (intro wy hSw;(try dsimp only at hSw);subst hSw;have ql:=hql x y;go_simp;try (with_reducible rfl))
    try simp only [Act.put,List.setIfInBounds_toArray,List.set_cons_zero,List.set_cons_succ]
    refine Late.Goes.takeT (i:=3) (v:=_) (by simp only [List.getElem?_toArray,List.getElem?_cons_succ,List.getElem?_cons_zero];rfl) (by kernel_rfl) (by kernel_rfl) (by kernel_rfl) (by kernel_rfl) (by kernel_rfl) (by exact fun _ _ _ h=>h) (Exp.yields_item (by rfl) _ rfl g (k * 2) rfl x (fun V hV=>HRK.out V (by rw [hV];exact (HR.out.drewN q).drewN 1))) hH ?_
    try simp only [Act.put,List.setIfInBounds_toArray,List.set_cons_zero,List.set_cons_succ]
    refine Late.tk 4 ?_ ?_ hH ?_;rotate_left 2
    refine Late.tk 5 ?_ ?_ hH ?_;rotate_left 2
    refine Late.tk 6 ?_ ?_ hH ?_;rotate_left 2
    refine Late.tk 7 ?_ ?_ hH ?_;rotate_left 2
    rotate_left
    any_goals (intro wy hSw;(try dsimp only at hSw);subst hSw;have ql:=hql x y;go_simp;try (with_reducible rfl))
    try simp only [Act.put,List.setIfInBounds_toArray,List.set_cons_zero,List.set_cons_succ]
    refine Late.Goes.takeT (i:=8) (v:=_) (by simp only [List.getElem?_toArray,List.getElem?_cons_succ,List.getElem?_cons_zero];rfl) (by kernel_rfl) (by kernel_rfl) (by kernel_rfl) (by kernel_rfl) (by kernel_rfl) (by exact fun _ _ _ h=>h) (Exp.yields_item (by rfl) _ rfl g (j * 2) rfl y (fun V hV=>HRJ.out V (by rw [hV];exact (HR.out.drewN q).drewN 1))) hH ?_
    try simp only [Act.put,List.setIfInBounds_toArray,List.set_cons_zero,List.set_cons_succ]
    refine Late.tk 9 ?_ ?_ hH ?_;rotate_left 2
    rotate_left
    any_goals (intro wy hSw;(try dsimp only at hSw);subst hSw;have ql:=hql x y;go_simp;try (with_reducible rfl))
    try simp only [Act.put,List.setIfInBounds_toArray,List.set_cons_zero,List.set_cons_succ]
    refine Late.Goes.done (by kernel_rfl) ?_ _
    by_cases hxy:x=y
    ·have hd:decide (x=y)=true:=decide_eq_true hxy
     have HCI:=Lib.hid (HST2.out (w.drewN q).drew ((HR.out.drewN q).drewN 1) (((But.refl _ w).drewN q).drew) hxy)
     go_wp2_with fail
     clear HRK HRJ HST2 hs hd
     go_loopw [3,5] (fun a b wr=>∃ (kk k2:Nat) (L:List It),a = .int .i64 (kk:Int)∧b = .int .i64 (k2:Int)∧1≤k2∧CI w g l rest (k+k2) kk L wr) (fun _ b _=>n - (intOf b).toNat)
     case atStart=>exact ⟨k,1,l,rfl,rfl,Nat.le_refl _,HCI.out⟩
     case round =>
      obtain ⟨kk,k2,L,rfl,rfl,hk2,hI⟩:=hrel
      have hle:=hI.le
      have hkk:=hI.lt
      have hlen:=hI.len
      rw [← HN.out] at hle hlen
      have HI:=Lib.hid hI
      obtain ⟨m,hm⟩:∃ m,n=k+m:=⟨n - k,by omega⟩
      have HM:=Lib.hid hm
      have hmk:n - k=m:=by omega
      (try rw [hmk])
      by_cases hlt2:k2 < m
      ·have hki2:(k2:Int) < (m:Int):=by omega
       obtain ⟨j2,hj2⟩:∃ j,k2=j+1:=⟨k2 - 1,by omega⟩
       have hs:IntKind.i64.wrap ((k2:Int) - 1)=(j2:Int):=by rw [IntWalk.i64_in _ (by omega)];omega
       have hj0:(j2:Int) < (m:Int):=by omega
       have hkkn:(kk:Int) < (n:Int):=by omega
       have HRK:=Lib.hid (fun V (hV:V=wr.drew)=>show World.rangeAt V g (k * 2+k2 * 2) (Exp.icells (Exp.look l (k+k2))) from by
        rw [hV,← Nat.add_mul]
        exact hI.at_ (by omega) (by rw [← HN.out];omega))
       have HRJ:=Lib.hid (fun V (hV:V=wr.drew)=>show World.rangeAt V g (k * 2+j2 * 2) (Exp.icells (Exp.look l (k+j2))) from by
        rw [hV,← Nat.add_mul]
        exact hI.at_ (by omega) (by rw [← HN.out];omega))
       have HNX:=Lib.hid (fun (he:Exp.look l (k+k2)=Exp.look l (k+j2))=>hI.next (w2:=wr.drew) (hI.row.drewN 1) ((But.refl _ wr).drew) (by rw [← HN.out];omega) (by rw [he,hj2];rfl))
       have HTH:=Lib.hid ((show Exp.IRow wr.drew 68 g L rest from hI.row.drewN 1).there (i:=kk) (by omega))
       have HRK3:=Lib.hid (show World.rangeAt wr.drew g (k * 2+k2 * 2) (Exp.icells (Exp.look l (k+k2))) from HRK.out _ rfl)
       have HKP:=Lib.hid (hI.keep (w2:=wr.drew.setCells g (kk * 2) (Exp.icells (Exp.look l (k+k2)))) ((show Exp.IRow wr.drew 68 g L rest from hI.row.drewN 1).put (by omega) _) (((But.refl _ wr).drew).trans' (but_setCells _ _ _ _)) (by rw [← HN.out];omega))
       obtain ⟨x,hx⟩:∃ x,x=Exp.look l (k+k2):=⟨_,rfl⟩
       obtain ⟨y,hy⟩:∃ y,y=Exp.look l (k+j2):=⟨_,rfl⟩
       rw [← hx] at HRK HNX HRK3 HKP
       rw [← hy] at HRJ HNX
       clear hx hy hj2 hI hm
       go_wp2_with fail
       refine Late.region_goes (fun V=>V=wr.drew) (fun _=>false) (by kernel_rfl) ?_ (fun hH=>?_)
       ·rfl
       refine Late.tk 0 ?_ ?_ hH ?_;rotate_left 2
       refine Late.tk 1 ?_ ?_ hH ?_;rotate_left 2
       refine Late.tk 2 ?_ ?_ hH ?_;rotate_left 2
       rotate_left
       any_goals (intro wy hSw;(try dsimp only at hSw);subst hSw;have qn:=hnq x y;go_simp;try (with_reducible rfl))
       try simp only [Act.put,List.setIfInBounds_toArray,List.set_cons_zero,List.set_cons_succ]
       refine Late.Goes.takeT (i:=3) (v:=_) (by simp only [List.getElem?_toArray,List.getElem?_cons_succ,List.getElem?_cons_zero];rfl) (by kernel_rfl) (by kernel_rfl) (by kernel_rfl) (by kernel_rfl) (by kernel_rfl) (by exact fun _ _ _ h=>h) (Exp.yields_item (by rfl) _ rfl g (k * 2+k2 * 2) rfl x (fun V hV=>HRK.out V hV)) hH ?_
       try simp only [Act.put,List.setIfInBounds_toArray,List.set_cons_zero,List.set_cons_succ]
       refine Late.tk 4 ?_ ?_ hH ?_;rotate_left 2
       refine Late.tk 5 ?_ ?_ hH ?_;rotate_left 2
       refine Late.tk 6 ?_ ?_ hH ?_;rotate_left 2
       refine Late.tk 7 ?_ ?_ hH ?_;rotate_left 2
       rotate_left
       any_goals (intro wy hSw;(try dsimp only at hSw);subst hSw;have qn:=hnq x y;go_simp;try (with_reducible rfl))
       try simp only [Act.put,List.setIfInBounds_toArray,List.set_cons_zero,List.set_cons_succ]
       refine Late.Goes.takeT (i:=8) (v:=_) (by simp only [List.getElem?_toArray,List.getElem?_cons_succ,List.getElem?_cons_zero];rfl) (by kernel_rfl) (by kernel_rfl) (by kernel_rfl) (by kernel_rfl) (by kernel_rfl) (by exact fun _ _ _ h=>h) (Exp.yields_item (by rfl) _ rfl g (k * 2+j2 * 2) rfl y (fun V hV=>HRJ.out V hV)) hH ?_
       try simp only [Act.put,List.setIfInBounds_toArray,List.set_cons_zero,List.set_cons_succ]
       refine Late.tk 9 ?_ ?_ hH ?_;rotate_left 2
       rotate_left
       any_goals (intro wy hSw;(try dsimp only at hSw);subst hSw;have qn:=hnq x y;go_simp;try (with_reducible rfl))
       try simp only [Act.put,List.setIfInBounds_toArray,List.set_cons_zero,List.set_cons_succ]
       refine Late.Goes.done (by kernel_rfl) ?_ _
       by_cases hxy2:x=y
       ·have HNE:=Lib.hid (HNX.out hxy2)
        subst hxy2
        simp only [decide_true,Bool.not_true]
        go_wp2_with fail
        go_roundw
        case rel=>exact ⟨kk,k2+1,L,rfl,by go_num,by omega,HNE.out⟩
        case measure=>simp [intOf];omega
       ·rw [decide_eq_false hxy2]
        simp only [Bool.not_false]
        clear hxy2
        have e0:wr.drew.cell? ⟨g,k * 2+k2 * 2,none⟩=some (.int .u64 (x.time:Int)):=HRK3.out 0 _ rfl
        have e1:wr.drew.cell? ⟨g,k * 2+k2 * 2+1,none⟩=some (.string x.key):=HRK3.out 1 _ rfl
        go_wp2_with (refine wpList_store_mid rfl 68 _ _ rfl g (kk * 2) (Exp.icells x).toArray rfl rfl (by simp only [List.size_toArray,Exp.icells_length];exact HTH.out) (by simp only [List.size_toArray,Exp.icells_length];exact Exp.item_size) (all_oneCell_toArray (Exp.icells_one _)) ?_)
        go_roundw
        case rel=>exact ⟨kk+1,k2+1,L.set kk x,by go_num,by go_num,by omega,HKP.out⟩
        case measure=>simp [intOf];omega
      ·have hkm:k2=m:=by omega
       have hnl:k+k2=l.length:=by rw [← HN.out];omega
       rw [hnl] at hI HI
       have hcl:=fun ty=>clear_any (w:=wr) g (n - kk) (cap - kk) (kk * 2) (by omega) ty (fun j hj=>by
        rw [hI.row.blk.cell]
        have h1:=hI.len
        rw [List.getElem?_toArray,Option.isSome_iff_exists]
        refine ⟨_,List.getElem?_eq_getElem ?_⟩
        rw [List.length_append,Exp.rowI_length,h1,← HN.out]
        omega) (fun j=>hI.row.blk.frozen j)
       have HFI:=Lib.hid (show ∃ C rest',(Ending.returned (.slice (some ⟨g,0,none⟩) kk cap):Ending) = .returned (.slice (some ⟨g,0,none⟩) C.length cap)∧C.length≤n∧(∀ x,x ∈ C ↔ x ∈ l)∧Exp.IRow (wr.setCells g (kk * 2) ((List.replicate (n - kk) Exp.nil).flatMap Exp.icells)) 68 g C rest'∧But (fun k=>k=g) w (wr.setCells g (kk * 2) ((List.replicate (n - kk) Exp.nil).flatMap Exp.icells)) from by
        have hl2:(L.take kk).length=kk:=by rw [List.length_take];have:=hI.len;omega
        refine ⟨L.take kk,((List.replicate (n - kk) Exp.nil).flatMap Exp.icells++rest),by rw [hl2],by omega,hI.done,?_,hI.but.trans' (but_setCells _ _ _ _)⟩
        rw [HN.out]
        exact hI.clear)
       have hkkn:(kk:Int)≤(n:Int):=by omega
       clear hI hm
       go_wp2
       go_ret
       exact HFI.out
    ·have hd:decide (x=y)=false:=decide_eq_false hxy
     go_wp2_with fail
     go_roundw
     case rel=>exact ⟨k+1,q+1,by omega,by omega,by go_num,rfl⟩
     case measure=>simp [intOf];omega
   ·have hkn:k=n:=by omega
    subst hkn
    go_wp2
    go_ret
    exact HEND.out q
end
end Go.Proofs.YtgjofinbdigmcaaGreat.Buk

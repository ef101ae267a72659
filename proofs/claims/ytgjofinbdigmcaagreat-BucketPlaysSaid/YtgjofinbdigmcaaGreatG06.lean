/- Contract of the program's closeGap: the gap is closed. Contract of the program's Delete. -/
import Derived.Test.YtgjofinbdigmcaaGreatG05
set_option linter.unusedSimpArgs false
set_option linter.unusedVariables false
set_option maxHeartbeats 2000000
set_option maxRecDepth 100000
section
namespace Go.Proofs.YtgjofinbdigmcaaGreat.Key
open Go.Proofs.YtgjofinbdigmcaaGreat.Mem Go.Proofs.YtgjofinbdigmcaaGreat.Fnv
open Go.ChangeShapes Go.WideShapes Go.ChangeAt Go.RowKit
structure KLo (w:World) (p g:Nat) (T:Tab) (n kn:Nat):Prop where
 blk:Blk w p 94 #[.slice (some ⟨g,0,none⟩) n n,.int .i64 (kn:Int)]
 row:Blk w g 118 (rowT T).toArray
 len:T.length=n
 few:8≤n∧n≤4000
 pow:Pow (n:Int)
 small:∀ e,some e ∈ T→e.key.size≤200
section
variable {w:World} {p g n kn:Nat} {T:Tab}
theorem KLo.but {F:Nat→Prop} {w':World} (h:KLo w p g T n kn) (hb:But F w w') (h1:¬ F p) (h2:¬ F g):KLo w' p g T n kn:=⟨h.blk.but hb h1,h.row.but hb h2,h.len,h.few,h.pow,h.small⟩
theorem KLo.set_ (h:KLo w p g T n kn) {j:Nat} (hj:j < n) (o:Option Ent) (hs:∀ e,o=some e→e.key.size≤200):KLo (w.setCells g (j * 8) (pcells o)) p g (T.set j o) n kn where
 blk:=h.blk.but (but_setCells g _ _ w) (fun e=>h.blk.ne_ h.row (by decide) e)
 row:=row_put h.row (by rw [h.len];exact hj) o
 len:=by rw [List.length_set];exact h.len
 few:=h.few
 pow:=h.pow
 small:=fun e he=>by
  rcases List.mem_or_eq_of_mem_set he with h1|h1
  ·exact h.small e h1
  ·exact hs e h1.symm
theorem KLo.len' (h:KLo w p g T n kn) {T':Tab} (he:T=T'):KLo w p g T' n kn:=he ▸ h
theorem lhome_any (h:KLo w p g T n kn) (s:ByteArray) (hs:s.size≤200) :
  Calls Tryz.prog 92 #[.pointer (some ⟨p,0,none⟩),.string s] w fun e w'=>e = .returned (.int .i64 ((hm n s:Nat):Int))∧w=w':=by
 have c0:w.cell? ⟨p,0,none⟩=some (.slice (some ⟨g,0,none⟩) n n):=h.blk.cell 0
 have hc:=home_yes s (by omega) h.pow w
 rw [home_nat] at hc
 obtain ⟨l1,l2⟩:=h.few
 have HC:=Lib.hid hc
 clear hc h hs
 generalize hm n s=m at *
 go_enter Tryz.func92,Tryz.ntmps92
 go_wp2_with fail
 refine HC.out.mono ?_
 rintro e w' ⟨rfl,rfl⟩
 clear HC
 go_wp2_with fail
 go_ret
 exact ⟨rfl,rfl⟩
theorem lnext_any (h:KLo w p g T n kn) (x:Nat) (hx:x≤100000) :
  Calls Tryz.prog 93 #[.pointer (some ⟨p,0,none⟩),.int .i64 (x:Int)] w fun e w'=>e = .returned (.int .i64 (((x+1) % n:Nat):Int))∧w=w':=by
 have c0:w.cell? ⟨p,0,none⟩=some (.slice (some ⟨g,0,none⟩) n n):=h.blk.cell 0
 obtain ⟨l1,l2⟩:=h.few
 have hc:=wrap_any (u := .bool true) c0 (by omega) (x+1) (by omega)
 obtain ⟨m,hm⟩:∃ m,m=(x+1) % n:=⟨_,rfl⟩
 rw [← hm] at hc ⊢
 have HC:=Lib.hid hc
 clear h hc hm
 go_enter Tryz.func93,Tryz.ntmps93
 go_wp2_with fail
 refine HC.out.mono ?_
 rintro e w' ⟨rfl,rfl⟩
 clear HC
 go_wp2_with fail
 go_ret
 exact ⟨rfl,rfl⟩
theorem lsteps_any (h:KLo w p g T n kn) (x y:Nat) (hx:x < n) (hy:y < n) :
  Calls Tryz.prog 100 #[.pointer (some ⟨p,0,none⟩),.int .i64 (x:Int),.int .i64 (y:Int)] w fun e w'=>e = .returned (.int .i64 (((y+n - x) % n:Nat):Int))∧w=w':=by
 have c0:w.cell? ⟨p,0,none⟩=some (.slice (some ⟨g,0,none⟩) n n):=h.blk.cell 0
 obtain ⟨l1,l2⟩:=h.few
 have hc:=wrap_any (u := .bool true) c0 (by omega) (y+n - x) (by omega)
 obtain ⟨m,hm⟩:∃ m,m=(y+n - x) % n:=⟨_,rfl⟩
 rw [← hm] at hc ⊢
 clear h hm
 obtain ⟨Z,hZ⟩:∃ Z,Z=y+n - x:=⟨_,rfl⟩
 rw [← hZ] at hc
 have HC:=Lib.hid hc
 clear hc
 have hz:(y:Int) - (x:Int)+(n:Int)=(Z:Int):=by omega
 have hz1:(y:Int) - (x:Int)=(Z:Int) - (n:Int):=by omega
 clear hZ
 go_enter Tryz.func100,Tryz.ntmps100
 go_wp2_with fail
 refine HC.out.mono ?_
 rintro e w' ⟨rfl,rfl⟩
 clear HC
 go_wp2_with fail
 go_ret
 exact ⟨rfl,rfl⟩
def Closing (R:Tab) (w:World) (p g n kn a Q:Nat) (x y:Nat) (wr:World):Prop :=
 ∃ (T':Tab) (gg c f:Nat),x=pl n a gg∧y=pl n a c∧Gap T' a gg c Q∧Q - c < f∧close n a f T' gg c=R∧KLo wr p g T' n kn∧But (fun k=>k=g) w wr
theorem off_pl {n a c:Nat} (ha:a < n) (hc:c < n):(pl n a c+n - a) % n=c:=off_of ha hc
theorem steps_pl {n a x y:Nat} (hn:0 < n) (h1:x≤y) (h2:y < x+n):(pl n a y+n - pl n a x) % n=y - x:=by
 have e1:=Nat.mod_lt (a+x) hn
 have e2:=Nat.mod_lt (a+y) hn
 have e3:pl n a y=((a+x) % n+(y - x)) % n:=by
  unfold pl
  rw [Nat.mod_add_mod,show a+x+(y - x)=a+y by omega]
 rw [e3]
 exact off_of e1 (by omega)
theorem kclose_any (h:KLo w p g T n kn) {a Q:Nat} (ha:a < n) (hG:Gap T a 0 1 Q) :
  Calls Tryz.prog 77 #[.pointer (some ⟨p,0,none⟩),.int .i64 (a:Int)] w fun e w'=>e = .returned (.tuple #[])∧KLo w' p g (close n a n T 0 1) n kn∧But (fun k=>k=g) w w':=by
 obtain ⟨l1,l2⟩:=h.few
 have hq:Q < n:=by have:=hG.qn;rw [h.len] at this;exact this
 have hpg:p≠g:=h.blk.ne_ h.row (by decide)
 obtain ⟨R,hR⟩:∃ R,R=close n a n T 0 1:=⟨_,rfl⟩
 rw [← hR]
 have h0:pl n a 0=a:=by unfold pl;rw [Nat.add_zero,Nat.mod_eq_of_lt ha]
 have h1:(a+1) % n=pl n a 1:=rfl
 have HS:=Lib.hid (show Closing R w p g n kn a Q a (pl n a 1) w from ⟨T,0,1,n,h0.symm,rfl,hG,by omega,hR.symm,h,But.refl _ w⟩)
 have HN:=Lib.hid (lnext_any h a (by omega))
 rw [h1] at HN
 clear h hG hR h0 h1
 obtain ⟨y0,hy0⟩:∃ y0,y0=pl n a 1:=⟨_,rfl⟩
 rw [← hy0] at HN HS
 clear hy0
 go_enter Tryz.func77,Tryz.ntmps77
 go_wp2_with fail
 refine HN.out.mono ?_
 rintro e w' ⟨rfl,rfl⟩
 go_wp2_with fail
 go_loopw [1,4] (fun x y wr=>∃ X Y:Nat,x = .int .i64 (X:Int)∧y = .int .i64 (Y:Int)∧Closing R w p g n kn a Q X Y wr) (fun x y _=>Q - (((intOf y).toNat+n - a) % n))
 case atStart=>exact ⟨a,y0,rfl,rfl,HS.out⟩
 case round =>
  obtain ⟨X,Y,rfl,rfl,T',gg,c,f,hX,hY,hG,hf,hcl,hK,hB⟩:=hrel
  have hlen:=hK.len
  have hcq:=hG.cq
  have hgc:=hG.gc
  have hXn:X < n:=by rw [hX];exact pl_lt (by omega)
  have hYn:Y < n:=by rw [hY];exact pl_lt (by omega)
  have hcell:=Blk.cells hK.row (k:=Y) (by omega)
  obtain ⟨a0,a1,-,-,-,-,-,-⟩:=hcell
  have hXY:X≠Y:=by rw [hX,hY];exact pl_ne (by omega) (by omega)
  have c0:wr.cell? ⟨p,0,none⟩=some (.slice (some ⟨g,0,none⟩) n n):=hK.blk.cell 0
  have hoff:(Y+n - a) % n=c:=by rw [hY];exact off_pl ha (by omega)
  have HK:=Lib.hid hK
  have HB:=Lib.hid hB
  have HG:=Lib.hid hG
  have HC:=Lib.hid hcl
  have HX:=Lib.hid hX
  have HY:=Lib.hid hY
  have HOFF:=Lib.hid hoff
  have HF:=Lib.hid hf
  have HLEN:=Lib.hid hlen
  have HGC:=Lib.hid hgc
  have HQ:=Lib.hid (And.intro hq hcq)
  clear hK hB hG hcl hX hY hoff hf hlen HN HS hgc hq hcq
  cases he:look T' Y with
  | none =>
   rw [he] at a0
   have e0:wr.cell? ⟨g,Y * 8,none⟩=some (.bool false):=a0
   have HR:=Lib.hid (show T'=R by rw [← HC.out];exact (close_none (by rw [← HY.out];exact he)).symm)
   clear a0 a1 he
   go_wp2_with fail
   go_end0
   exact ⟨rfl,HK.out.len' HR.out,HB.out⟩
  | some e =>
   rw [he] at a0 a1
   have e0:wr.cell? ⟨g,Y * 8,none⟩=some (.bool true):=a0
   have e1:wr.cell? ⟨g,Y * 8+1,none⟩=some (.string e.key):=a1
   have hsm:=HK.out.small e (look_mem.2 ⟨Y,he⟩)
   have HHM:=Lib.hid (lhome_any HK.out e.key hsm)
   have HE:=Lib.hid he
   have hhl:=hm_lt (show 0 < n by omega) e.key
   have HS1:=Lib.hid (lsteps_any HK.out (hm n e.key) Y hhl hYn)
   have HS2:=Lib.hid (lsteps_any HK.out X Y hXn hYn)
   rw [show (Y+n - X) % n=c - gg by rw [HX.out,HY.out];exact steps_pl (by omega) (by have:=HGC.out;omega) (by have:=HQ.out;omega),show (Y+n - hm n e.key) % n=back n e Y from rfl] at *
   have hbl:=back_lt (n:=n) (by omega) e Y
   obtain ⟨H,hH⟩:∃ H,H=hm n e.key:=⟨_,rfl⟩
   rw [← hH] at HHM HS1 hhl
   obtain ⟨B,hB⟩:∃ B,B=back n e Y:=⟨_,rfl⟩
   rw [← hB] at HS1 hbl
   obtain ⟨D,hD⟩:∃ D,D=c - gg:=⟨_,rfl⟩
   rw [← hD] at HS2
   have HB2:=Lib.hid hB
   have HD:=Lib.hid hD
   have HNX:=Lib.hid (show (Y+1) % n=pl n a (c+1) by rw [HY.out];exact pl_next n a c)
   have hcc:c < Q:=by
    have h1:=HG.out.hq
    rw [HLEN.out] at h1
    have h2:=HQ.out
    rcases Nat.lt_or_ge c Q with h3|h3
    ·exact h3
    ·exfalso
     rw [show Q=c by omega,← HY.out,he] at h1
     cases h1
   have HCC:=Lib.hid hcc
   have hDi:(D:Int)≤4000:=by have:=HQ.out;omega
   have hBi:(B:Int)≤4000:=by omega
   clear hH hB hD a0 a1 he hcc
   by_cases hlt:B < D
   ·have HST:=Lib.hid (show Closing R w p g n kn a Q X ((Y+1) % n) wr from by
     have hb:¬ c - gg≤back T'.length e (pl T'.length a c):=by rw [HLEN.out,← HY.out,← HB2.out,← HD.out];omega
     have he:look T' (pl T'.length a c)=some e:=by rw [HLEN.out,← HY.out];exact HE.out
     have hfs:∃ f',f=f'+1:=⟨f - 1,by have:=HF.out;omega⟩
     obtain ⟨f',rfl⟩:=hfs
     refine ⟨T',gg,c+1,f',HX.out,HNX.out,HG.out.stay he hb,by have:=HF.out;have:=HCC.out;omega,?_,HK.out,HB.out⟩
     rw [← HC.out,close_stay (by rw [HLEN.out] at he;exact he) (by rw [HLEN.out] at hb;exact hb)])
    have HN:=Lib.hid (lnext_any HK.out Y (by omega))
    have HOFF2:=Lib.hid (show ((Y+1) % n+n - a) % n=c+1 by rw [HNX.out];exact off_pl ha (by have:=HQ.out;have:=HCC.out;omega))
    obtain ⟨Y',hY'⟩:∃ Y',Y'=(Y+1) % n:=⟨_,rfl⟩
    rw [← hY'] at HN HST HOFF2
    have hbt:decide ((B:Int) < (D:Int))=true:=by simp;omega
    have hbt2:(B:Int) < (D:Int):=by omega
    clear hY'
    go_wp2_with fail
    refine HHM.out.mono ?_
    rintro x1 w1 ⟨rfl,rfl⟩
    clear e0 e1
    go_wp2_with fail
    refine HS1.out.mono ?_
    rintro x1 w1 ⟨rfl,rfl⟩
    go_wp2_with fail
    refine HS2.out.mono ?_
    rintro x1 w1 ⟨rfl,rfl⟩
    go_wp2_with fail
    refine HN.out.mono ?_
    rintro x1 w1 ⟨rfl,rfl⟩
    go_wp2_with fail
    go_roundw
    case rel=>exact ⟨X,Y',rfl,rfl,HST.out⟩
    case measure=>simp only [intOf,Int.toNat_natCast];rw [HOFF.out,HOFF2.out];have:=HCC.out;omega
   ·have hbt2:¬ (B:Int) < (D:Int):=by omega
    have hb:c - gg≤back T'.length e (pl T'.length a c):=by rw [HLEN.out,← HY.out,← HB2.out,← HD.out];omega
    have HBB:=Lib.hid hb
    clear hb
    go_wp2_with fail
    refine HHM.out.mono ?_
    rintro x1 w1 ⟨rfl,rfl⟩
    clear e0 e1
    go_wp2_with fail
    refine HS1.out.mono ?_
    rintro x1 w1 ⟨rfl,rfl⟩
    go_wp2_with fail
    refine HS2.out.mono ?_
    rintro x1 w1 ⟨rfl,rfl⟩
    clear HHM HS1 HS2
    go_wp2_with fail
    clear c0
    have HD1:=Lib.hid ((But.refl (fun _=>False) wr).drew)
    have HK1:=Lib.hid (HK.out.but HD1.out (fun h=>h) (fun h=>h))
    have HK2:=Lib.hid (HK1.out.set_ hXn (some e) (fun f hf=>by injection hf with hf;subst hf;exact hsm))
    have HK3:=Lib.hid (HK2.out.set_ hYn none (fun f hf=>by cases hf))
    have HB3:=Lib.hid (((HB.out.trans HD1.out (fun j hj h=>h.elim)).trans' (but_setCells g (pcells (some e)) (X * 8) _)).trans' (but_setCells g (pcells none) (Y * 8) _))
    have HC0:=Lib.hid (fun V (hV:V=wr.drew∨V=wr.drew.setCells g (X * 8) (pcells (some e)))=>show V.cell? ⟨p,0,none⟩=some (.slice (some ⟨g,0,none⟩) n n) from by
     rcases hV with rfl|rfl
     ·exact HK1.out.blk.cell 0
     ·exact HK2.out.blk.cell 0)
    have HR0:=Lib.hid (fun V (hV:V=wr.drew∨V=wr.drew.setCells g (X * 8) (pcells (some e)))=>show V.rangeAt g (Y * 8) (pcells (some e)) from by
     rcases hV with rfl|rfl
     ·have:=row_range HK1.out.row (i:=Y) (by rw [HLEN.out];exact hYn);rw [HE.out] at this;exact this
     ·have:=row_range HK2.out.row (i:=Y) (by rw [List.length_set,HLEN.out];exact hYn);rw [look_set_ne hXY,HE.out] at this;exact this)
    have HT1:=Lib.hid (row_there HK1.out.row (i:=X) (by rw [HLEN.out];exact hXn))
    have HT2:=Lib.hid (row_there HK2.out.row (i:=Y) (by rw [List.length_set,HLEN.out];exact hYn))
    have hXi:(X:Int) < (n:Int):=by omega
    have hYi:(Y:Int) < (n:Int):=by omega
    refine Late.region_goes (fun V=>V=wr.drew∨V=wr.drew.setCells g (X * 8) (pcells (some e))) (fun i=>i == 21) (by kernel_rfl) ?_ (fun hH=>?_)
    ·exact .inl rfl
    refine Late.Goes.takeT (i:=0) (v:=?_) (by simp only [List.getElem?_toArray,List.getElem?_cons_succ,List.getElem?_cons_zero];rfl) (by kernel_rfl) (by kernel_rfl) (by kernel_rfl) (by kernel_rfl) (by kernel_rfl) (by exact fun _ _ _ h=>h) (Or.inl ⟨by rfl,?_⟩) hH ?_
    rotate_left
    ·(intro wy hSw;(try dsimp only at hSw);have k0:=HC0.out wy hSw;go_simp;try (with_reducible rfl))
    try simp only [Act.put,List.setIfInBounds_toArray,List.set_cons_zero,List.set_cons_succ]
    refine Late.Goes.takeT (i:=1) (v:=?_) (by simp only [List.getElem?_toArray,List.getElem?_cons_succ,List.getElem?_cons_zero];rfl) (by kernel_rfl) (by kernel_rfl) (by kernel_rfl) (by kernel_rfl) (by kernel_rfl) (by exact fun _ _ _ h=>h) (Or.inl ⟨by rfl,?_⟩) hH ?_
    rotate_left
    ·(intro wy hSw;(try dsimp only at hSw);have k0:=HC0.out wy hSw;go_simp;try (with_reducible rfl))
    try simp only [Act.put,List.setIfInBounds_toArray,List.set_cons_zero,List.set_cons_succ]
    refine Late.Goes.takeT (i:=2) (v:=?_) (by simp only [List.getElem?_toArray,List.getElem?_cons_succ,List.getElem?_cons_zero];rfl) (by kernel_rfl) (by kernel_rfl) (by kernel_rfl) (by kernel_rfl) (by kernel_rfl) (by exact fun _ _ _ h=>h) (Or.inl ⟨by rfl,?_⟩) hH ?_
    rotate_left
    ·(intro wy hSw;(try dsimp only at hSw);have k0:=HC0.out wy hSw;go_simp;try (with_reducible rfl))
    try simp only [Act.put,List.setIfInBounds_toArray,List.set_cons_zero,List.set_cons_succ]
    refine Late.Goes.takeT (i:=3) (v:=?_) (by simp only [List.getElem?_toArray,List.getElem?_cons_succ,List.getElem?_cons_zero];rfl) (by kernel_rfl) (by kernel_rfl) (by kernel_rfl) (by kernel_rfl) (by kernel_rfl) (by exact fun _ _ _ h=>h) (Or.inl ⟨by rfl,?_⟩) hH ?_
    rotate_left
    ·(intro wy hSw;(try dsimp only at hSw);have k0:=HC0.out wy hSw;go_simp;try (with_reducible rfl))
    try simp only [Act.put,List.setIfInBounds_toArray,List.set_cons_zero,List.set_cons_succ]
    refine Late.Goes.takeT (i:=4) (v:=?_) (by simp only [List.getElem?_toArray,List.getElem?_cons_succ,List.getElem?_cons_zero];rfl) (by kernel_rfl) (by kernel_rfl) (by kernel_rfl) (by kernel_rfl) (by kernel_rfl) (by exact fun _ _ _ h=>h) (Or.inl ⟨by rfl,?_⟩) hH ?_
    rotate_left
    ·(intro wy hSw;(try dsimp only at hSw);have k0:=HC0.out wy hSw;go_simp;try (with_reducible rfl))
    try simp only [Act.put,List.setIfInBounds_toArray,List.set_cons_zero,List.set_cons_succ]
    refine Late.Goes.takeT (i:=5) (v:=?_) (by simp only [List.getElem?_toArray,List.getElem?_cons_succ,List.getElem?_cons_zero];rfl) (by kernel_rfl) (by kernel_rfl) (by kernel_rfl) (by kernel_rfl) (by kernel_rfl) (by exact fun _ _ _ h=>h) (Or.inl ⟨by rfl,?_⟩) hH ?_
    rotate_left
    ·(intro wy hSw;(try dsimp only at hSw);have k0:=HC0.out wy hSw;go_simp;try (with_reducible rfl))
    try simp only [Act.put,List.setIfInBounds_toArray,List.set_cons_zero,List.set_cons_succ]
    refine Late.Goes.takeT (i:=6) (v:=?_) (by simp only [List.getElem?_toArray,List.getElem?_cons_succ,List.getElem?_cons_zero];rfl) (by kernel_rfl) (by kernel_rfl) (by kernel_rfl) (by kernel_rfl) (by kernel_rfl) (by exact fun _ _ _ h=>h) (Or.inl ⟨by rfl,?_⟩) hH ?_
    rotate_left
    ·(intro wy hSw;(try dsimp only at hSw);have k0:=HC0.out wy hSw;go_simp;try (with_reducible rfl))
    try simp only [Act.put,List.setIfInBounds_toArray,List.set_cons_zero,List.set_cons_succ]
    refine Late.Goes.takeT (i:=7) (v:=?_) (by simp only [List.getElem?_toArray,List.getElem?_cons_succ,List.getElem?_cons_zero];rfl) (by kernel_rfl) (by kernel_rfl) (by kernel_rfl) (by kernel_rfl) (by kernel_rfl) (by exact fun _ _ _ h=>h) (Or.inl ⟨by rfl,?_⟩) hH ?_
    rotate_left
    ·(intro wy hSw;(try dsimp only at hSw);have k0:=HC0.out wy hSw;go_simp;try (with_reducible rfl))
    try simp only [Act.put,List.setIfInBounds_toArray,List.set_cons_zero,List.set_cons_succ]
    refine Late.Goes.takeT (i:=8) (v:=?_) (by simp only [List.getElem?_toArray,List.getElem?_cons_succ,List.getElem?_cons_zero];rfl) (by kernel_rfl) (by kernel_rfl) (by kernel_rfl) (by kernel_rfl) (by kernel_rfl) (by exact fun _ _ _ h=>h) (Or.inl ⟨by rfl,?_⟩) hH ?_
    rotate_left
    ·(intro wy hSw;(try dsimp only at hSw);have k0:=HC0.out wy hSw;go_simp;try (with_reducible rfl))
    try simp only [Act.put,List.setIfInBounds_toArray,List.set_cons_zero,List.set_cons_succ]
    refine Late.Goes.takeT (i:=9) (v:=?_) (by simp only [List.getElem?_toArray,List.getElem?_cons_succ,List.getElem?_cons_zero];rfl) (by kernel_rfl) (by kernel_rfl) (by kernel_rfl) (by kernel_rfl) (by kernel_rfl) (by exact fun _ _ _ h=>h) (Or.inl ⟨by rfl,?_⟩) hH ?_
    rotate_left
    ·(intro wy hSw;(try dsimp only at hSw);have k0:=HC0.out wy hSw;go_simp;try (with_reducible rfl))
    try simp only [Act.put,List.setIfInBounds_toArray,List.set_cons_zero,List.set_cons_succ]
    refine Late.Goes.takeT (i:=10) (v:=?_) (by simp only [List.getElem?_toArray,List.getElem?_cons_succ,List.getElem?_cons_zero];rfl) (by kernel_rfl) (by kernel_rfl) (by kernel_rfl) (by kernel_rfl) (by kernel_rfl) (by exact fun _ _ _ h=>h) (Or.inl ⟨by rfl,?_⟩) hH ?_
    rotate_left
    ·(intro wy hSw;(try dsimp only at hSw);have k0:=HC0.out wy hSw;go_simp;try (with_reducible rfl))
    try simp only [Act.put,List.setIfInBounds_toArray,List.set_cons_zero,List.set_cons_succ]
    refine Late.Goes.takeT (i:=11) (v:=?_) (by simp only [List.getElem?_toArray,List.getElem?_cons_succ,List.getElem?_cons_zero];rfl) (by kernel_rfl) (by kernel_rfl) (by kernel_rfl) (by kernel_rfl) (by kernel_rfl) (by exact fun _ _ _ h=>h) (Or.inl ⟨by rfl,?_⟩) hH ?_
    rotate_left
    ·(intro wy hSw;(try dsimp only at hSw);have k0:=HC0.out wy hSw;go_simp;try (with_reducible rfl))
    try simp only [Act.put,List.setIfInBounds_toArray,List.set_cons_zero,List.set_cons_succ]
    refine Late.Goes.takeT (i:=12) (v:=?_) (by simp only [List.getElem?_toArray,List.getElem?_cons_succ,List.getElem?_cons_zero];rfl) (by kernel_rfl) (by kernel_rfl) (by kernel_rfl) (by kernel_rfl) (by kernel_rfl) (by exact fun _ _ _ h=>h) (Or.inl ⟨by rfl,?_⟩) hH ?_
    rotate_left
    ·(intro wy hSw;(try dsimp only at hSw);have k0:=HC0.out wy hSw;go_simp;try (with_reducible rfl))
    try simp only [Act.put,List.setIfInBounds_toArray,List.set_cons_zero,List.set_cons_succ]
    refine Late.Goes.takeT (i:=13) (v:=?_) (by simp only [List.getElem?_toArray,List.getElem?_cons_succ,List.getElem?_cons_zero];rfl) (by kernel_rfl) (by kernel_rfl) (by kernel_rfl) (by kernel_rfl) (by kernel_rfl) (by exact fun _ _ _ h=>h) (Or.inl ⟨by rfl,?_⟩) hH ?_
    rotate_left
    ·(intro wy hSw;(try dsimp only at hSw);have k0:=HC0.out wy hSw;go_simp;try (with_reducible rfl))
    try simp only [Act.put,List.setIfInBounds_toArray,List.set_cons_zero,List.set_cons_succ]
    refine Late.Goes.takeT (i:=14) (v:=?_) (by simp only [List.getElem?_toArray,List.getElem?_cons_succ,List.getElem?_cons_zero];rfl) (by kernel_rfl) (by kernel_rfl) (by kernel_rfl) (by kernel_rfl) (by kernel_rfl) (by exact fun _ _ _ h=>h) (Or.inl ⟨by rfl,?_⟩) hH ?_
    rotate_left
    ·(intro wy hSw;(try dsimp only at hSw);have k0:=HC0.out wy hSw;go_simp;try (with_reducible rfl))
    try simp only [Act.put,List.setIfInBounds_toArray,List.set_cons_zero,List.set_cons_succ]
    refine Late.Goes.takeT (i:=15) (v:=?_) (by simp only [List.getElem?_toArray,List.getElem?_cons_succ,List.getElem?_cons_zero];rfl) (by kernel_rfl) (by kernel_rfl) (by kernel_rfl) (by kernel_rfl) (by kernel_rfl) (by exact fun _ _ _ h=>h) (Or.inl ⟨by rfl,?_⟩) hH ?_
    rotate_left
    ·(intro wy hSw;(try dsimp only at hSw);have k0:=HC0.out wy hSw;go_simp;try (with_reducible rfl))
    try simp only [Act.put,List.setIfInBounds_toArray,List.set_cons_zero,List.set_cons_succ]
    refine Late.Goes.takeT (i:=16) (v:=_) (by simp only [List.getElem?_toArray,List.getElem?_cons_succ,List.getElem?_cons_zero];rfl) (by kernel_rfl) (by kernel_rfl) (by kernel_rfl) (by kernel_rfl) (by kernel_rfl) (by exact fun _ _ _ h=>h) (yields_place (by rfl) _ rfl g (Y * 8) rfl (some e) (fun V hV=>HR0.out V hV)) hH ?_
    try simp only [Act.put,List.setIfInBounds_toArray,List.set_cons_zero,List.set_cons_succ]
    refine Late.Goes.takeT (i:=17) (v:=?_) (by simp only [List.getElem?_toArray,List.getElem?_cons_succ,List.getElem?_cons_zero];rfl) (by kernel_rfl) (by kernel_rfl) (by kernel_rfl) (by kernel_rfl) (by kernel_rfl) (by exact fun _ _ _ h=>h) (Or.inl ⟨by rfl,?_⟩) hH ?_
    rotate_left
    ·(intro wy hSw;(try dsimp only at hSw);have k0:=HC0.out wy hSw;go_simp;try (with_reducible rfl))
    try simp only [Act.put,List.setIfInBounds_toArray,List.set_cons_zero,List.set_cons_succ]
    refine Late.Goes.takeT (i:=18) (v:=?_) (by simp only [List.getElem?_toArray,List.getElem?_cons_succ,List.getElem?_cons_zero];rfl) (by kernel_rfl) (by kernel_rfl) (by kernel_rfl) (by kernel_rfl) (by kernel_rfl) (by exact fun _ _ _ h=>h) (Or.inl ⟨by rfl,?_⟩) hH ?_
    rotate_left
    ·(intro wy hSw;(try dsimp only at hSw);have k0:=HC0.out wy hSw;go_simp;try (with_reducible rfl))
    try simp only [Act.put,List.setIfInBounds_toArray,List.set_cons_zero,List.set_cons_succ]
    refine Late.Goes.one (i:=19) (by kernel_rfl) (by simp only [List.getElem?_toArray,List.getElem?_cons_succ,List.getElem?_cons_zero];rfl) (fun K hK=>?_)
    clear hH
    refine wp_store_blk (by rfl) 118 _ _ rfl g (X * 8) (pcells (some e)) rfl rfl (by rw [pcells_length];exact HT1.out) (by rw [pcells_length];exact place_size) (pcells_one _) ?_
    refine hK.out _ _ ?_ (fun hH=>?_)
    ·exact fun _ => .inr rfl
    clear hK K
    have hH:=hH rfl
    try simp only [Act.put,List.setIfInBounds_toArray,List.set_cons_zero,List.set_cons_succ]
    generalize wr.drew.setCells g (X * 8) (pcells (some e))=W2 at HK2 HK3 HB3 HC0 HR0 HT2 hH ⊢
    refine Late.Goes.takeT (i:=20) (v:=?_) (by simp only [List.getElem?_toArray,List.getElem?_cons_succ,List.getElem?_cons_zero];rfl) (by kernel_rfl) (by kernel_rfl) (by kernel_rfl) (by kernel_rfl) (by kernel_rfl) (by exact fun _ _ _ h=>h) (Or.inl ⟨by rfl,?_⟩) hH ?_
    rotate_left
    ·(intro wy hSw;(try dsimp only at hSw);have k0:=HC0.out wy hSw;go_simp;try (with_reducible rfl))
    try simp only [Act.put,List.setIfInBounds_toArray,List.set_cons_zero,List.set_cons_succ]
    refine Late.Goes.one (i:=21) (by kernel_rfl) (by simp only [List.getElem?_toArray,List.getElem?_cons_succ,List.getElem?_cons_zero];rfl) (fun K hK=>?_)
    clear hH
    refine wp_store_blk (by rfl) 118 _ _ rfl g (Y * 8) (pcells none) rfl rfl (by rw [pcells_length];exact HT2.out) (by rw [pcells_length];exact place_size) (pcells_one _) ?_
    refine hK.out _ _ ?_ (fun _=>?_)
    ·exact fun h=>by cases h
    clear hK K
    try simp only [Act.put,List.setIfInBounds_toArray,List.set_cons_zero,List.set_cons_succ]
    refine Late.Goes.done (by kernel_rfl) ?_ _
    have HST:=Lib.hid (show Closing R w p g n kn a Q Y ((Y+1) % n) (W2.setCells g (Y * 8) (pcells none)) from by
     have he:look T' (pl T'.length a c)=some e:=by rw [HLEN.out,← HY.out];exact HE.out
     have hfs:∃ f',f=f'+1:=⟨f - 1,by have:=HF.out;omega⟩
     obtain ⟨f',rfl⟩:=hfs
     have hmv:(T'.set X (some e)).set Y none=moved T' n a gg c e:=by unfold moved;rw [← HX.out,← HY.out];exact List.set_comm _ _ hXY
     refine ⟨moved T' n a gg c e,c,c+1,f',HY.out,HNX.out,?_,by have:=HF.out;have:=HCC.out;omega,?_,HK3.out.len' hmv,HB3.out⟩
     ·have:=HG.out.move he HBB.out
      rwa [HLEN.out] at this
     ·rw [← HC.out,close_move (by rw [HLEN.out] at he;exact he) (by have:=HBB.out;rw [HLEN.out] at this;exact this)])
    have HN:=Lib.hid (lnext_any HK3.out Y (by omega))
    have HOFF2:=Lib.hid (show ((Y+1) % n+n - a) % n=c+1 by rw [HNX.out];exact off_pl ha (by have:=HQ.out;have:=HCC.out;omega))
    obtain ⟨Y',hY'⟩:∃ Y',Y'=(Y+1) % n:=⟨_,rfl⟩
    rw [← hY'] at HN HST HOFF2
    clear hY' HK1 HK2 HK3 HB3 HC0 HR0 HT1 HT2
    generalize W2.setCells g (Y * 8) (pcells none)=W3 at HST HN ⊢
    go_wp2_with fail
    refine HN.out.mono ?_
    rintro x1 w1 ⟨rfl,rfl⟩
    go_wp2_with fail
    go_roundw
    case rel=>exact ⟨Y,Y',rfl,rfl,HST.out⟩
    case measure=>simp only [intOf,Int.toNat_natCast];rw [HOFF.out,HOFF2.out];have:=HCC.out;omega
end
end Go.Proofs.YtgjofinbdigmcaaGreat.Key
end
section
namespace Go.Proofs.YtgjofinbdigmcaaGreat.Key
open Go.Proofs.YtgjofinbdigmcaaGreat.Mem Go.Proofs.YtgjofinbdigmcaaGreat.Fnv
open Go.ChangeShapes Go.WideShapes Go.ChangeAt Go.RowKit
section
variable {w:World} {p g i kn n:Nat} {T:Tab}
theorem KAt.low (h:KAt w p g T i kn):KLo w p g T T.length kn:=⟨h.blk,h.row,rfl,by have:=h.lt;omega,h.good.pow30 (by have:=h.few;omega),h.small⟩
theorem KLo.count (h:KLo w p g T n kn) (kn':Nat):KLo (w.setCell ⟨p,1,none⟩ (.int .i64 (kn':Int))) p g T n kn' where
 blk:=h.blk.set_ 1 _
 row:=h.row.but ((But.refl (fun k=>k=p) w).setCell (p:=⟨p,1,none⟩) rfl _) (fun e=>h.blk.ne_ h.row (by decide) e.symm)
 len:=h.len
 few:=h.few
 pow:=h.pow
 small:=h.small
theorem kdel_none (h:KAt w p g T i (cnt T)) (s:ByteArray) (hs:s.size≤200) (hi:i+1≤400) (ha:ask T s=none) :
  Calls Tryz.prog 53 #[.pointer (some ⟨p,0,none⟩),.string s] w fun x w'=>x = .returned (.bool false)∧KAt w' p g (del T s) (i+1) (cnt (del T s))∧But (fun k=>k=p∨k=g) w w':=by
 obtain ⟨l1,l2⟩:=h.lt
 have hfl:=find_lt (show 0 < T.length by omega) s
 have HF:=Lib.hid (kfind_any h s hs)
 have c0:=h.blk.cell 0
 have hcells:=Blk.cells h.row hfl
 obtain ⟨a0,-,-,-,-,-,-,-⟩:=hcells
 have hl:look T (find T s)=none:=ha
 rw [hl] at a0
 have HE:=Lib.hid (show KAt w p g (del T s) (i+1) (cnt (del T s)) by rw [del_none ha];exact ⟨h.blk,h.row,h.good.more,h.small,hi⟩)
 obtain ⟨n1,hn1⟩:∃ n,n=T.length:=⟨_,rfl⟩
 obtain ⟨m1,hm1⟩:∃ m,m=find T s:=⟨_,rfl⟩
 rw [← hm1] at HF a0 hfl
 rw [← hn1] at c0 l1 l2 hfl
 have e0:w.cell? ⟨g,m1 * 8,none⟩=some (.bool false):=a0
 have e1:w.cell? ⟨p,0,none⟩=some (.slice (some ⟨g,0,none⟩) n1 n1):=c0
 clear a0 c0 hl h ha hm1 hn1
 go_enter Tryz.func53,Tryz.ntmps53
 go_wp2_with fail
 refine HF.out.mono ?_
 rintro x w' ⟨rfl,rfl⟩
 go_wp2_with fail
 go_ret
 exact ⟨rfl,HE.out,But.refl _ _⟩
theorem kdel_some (h:KAt w p g T i (cnt T)) (s:ByteArray) (e:Ent) (hs:s.size≤200) (hi:i+1≤400) (ha:ask T s=some e) :
  Calls Tryz.prog 53 #[.pointer (some ⟨p,0,none⟩),.string s] w fun x w'=>x = .returned (.bool true)∧KAt w' p g (del T s) (i+1) (cnt (del T s))∧But (fun k=>k=p∨k=g) w w':=by
 obtain ⟨l1,l2⟩:=h.lt
 have hfl:=find_lt (show 0 < T.length by omega) s
 have HF:=Lib.hid (kfind_any h s hs)
 have c0:=h.blk.cell 0
 have hcells:=Blk.cells h.row hfl
 obtain ⟨a0,-,-,-,-,-,-,-⟩:=hcells
 have hl:look T (find T s)=some e:=ha
 rw [hl] at a0
 obtain ⟨Q,hG⟩:=Gap.start h.good.wf h.good.free hl
 have hgood:=h.good.del s
 have hcnt:=cnt_del h.good s
 rw [ha] at hcnt
 simp at hcnt
 have hc1:cnt T≤400:=by have:=h.good.few;omega
 rw [del_some ha] at hgood hcnt ⊢
 unfold gone at hgood hcnt ⊢
 have HK:=Lib.hid h.low
 obtain ⟨n1,hn1⟩:∃ n,n=T.length:=⟨_,rfl⟩
 obtain ⟨m1,hm1⟩:∃ m,m=find T s:=⟨_,rfl⟩
 rw [← hm1] at HF a0 hfl hG hgood hcnt ⊢
 rw [← hn1] at c0 l1 l2 hfl hgood hcnt HK ⊢
 obtain ⟨c,hc⟩:∃ c,c=cnt (close n1 m1 n1 (T.set m1 none) 0 1):=⟨_,rfl⟩
 rw [← hc] at hcnt ⊢
 rw [← hcnt] at HK hc1
 have e0:w.cell? ⟨g,m1 * 8,none⟩=some (.bool true):=a0
 have e1:w.cell? ⟨p,0,none⟩=some (.slice (some ⟨g,0,none⟩) n1 n1):=c0
 have HG:=Lib.hid hG
 have HGD:=Lib.hid hgood
 have HN:=Lib.hid hn1
 have HK1:=Lib.hid (HK.out.set_ hfl none (fun f hf=>by cases hf))
 have HK2:=Lib.hid (HK1.out.count c)
 have HTH:=Lib.hid (row_there HK.out.row (i:=m1) (by rw [← hn1];exact hfl))
 have HB1:=Lib.hid ((but_setCells g (pcells none) (m1 * 8) w).mono (T:=fun k=>k=p∨k=g) (fun j hj h => .inr h))
 have k1:(w.setCells g (m1 * 8) (pcells none)).cell? ⟨p,0,none⟩=some (.slice (some ⟨g,0,none⟩) n1 n1):=HK1.out.blk.cell 0
 have k2:(w.setCells g (m1 * 8) (pcells none)).cell? ⟨p,1,none⟩=some (.int .i64 ((c+1:Nat):Int)):=HK1.out.blk.cell 1
 have k3:(w.setCells g (m1 * 8) (pcells none)).frozen? ⟨p,1,none⟩=false:=HK1.out.blk.frozen 1
 have HCL:=Lib.hid (kclose_any HK2.out hfl HG.out)
 have HB2:=Lib.hid (HB1.out.trans' ((But.refl (fun k=>k=p∨k=g) (w.setCells g (m1 * 8) (pcells none))).setCell (p:=⟨p,1,none⟩) (.inl rfl) (.int .i64 (c:Int))))
 clear a0 c0 hl h ha hm1 hn1 hG hgood hc hcnt
 go_enter Tryz.func53,Tryz.ntmps53
 go_wp2_with fail
 refine HF.out.mono ?_
 rintro x w' ⟨rfl,rfl⟩
 go_wp2_with (refine wpList_store_mid rfl 118 _ _ rfl g (m1 * 8) (pcells none).toArray rfl rfl (by simp only [List.size_toArray,pcells_length];exact HTH.out) (by simp only [List.size_toArray,pcells_length];exact place_size) (all_oneCell_toArray (pcells_one none)) ?_;change wpList _ _ _ _ _ (w.setCells g (m1 * 8) (pcells none));clear e0 e1;generalize w.setCells g (m1 * 8) (pcells none)=W1 at HK1 HK2 HB1 HB2 HCL k1 k2 k3 ⊢)
 change Calls _ _ _ (W1.setCell ⟨p,1,none⟩ (.int .i64 (c:Int))) _
 refine HCL.out.mono ?_
 rintro x w' ⟨rfl,hK,hB⟩
 have HK9:=Lib.hid hK
 have HB9:=Lib.hid (HB2.out.trans hB (fun j hj h => .inr h))
 clear hK hB
 go_wp2_with fail
 go_ret
 refine ⟨rfl,⟨?_,HK9.out.row,HGD.out,HK9.out.small,hi⟩,HB9.out⟩
 have:=HK9.out.blk
 rwa [← HK9.out.len] at this
theorem kdel_any (h:KAt w p g T i (cnt T)) (s:ByteArray) (hs:s.size≤200) (hi:i+1≤400) :
  Calls Tryz.prog 53 #[.pointer (some ⟨p,0,none⟩),.string s] w fun x w'=>x = .returned (.bool (ask T s).isSome)∧KAt w' p g (del T s) (i+1) (cnt (del T s))∧But (fun k=>k=p∨k=g) w w':=by
 cases ha:ask T s with
 | some f=>exact kdel_some h s f hs hi ha
 | none=>exact kdel_none h s hs hi ha
end
end Go.Proofs.YtgjofinbdigmcaaGreat.Key
end

/- The two partitions of a row. -/
import Derived.Test.YtgjofinbdigmcaaGreatG24
import Derived.Deep.CutBlock
import Derived.Handy
set_option linter.unusedSimpArgs false
set_option linter.unusedVariables false
set_option maxHeartbeats 2000000
set_option maxRecDepth 100000
namespace Go.Proofs.YtgjofinbdigmcaaGreat.Srt
open Go.Proofs.YtgjofinbdigmcaaGreat.Mem
open Go.RowKit Go.Sort
section
variable {w0 w w':World} {blk off N:Nat} {d0 d d':Array Int}
theorem part_eq (d d1:Array Int) {a b pivot i j:Nat} (h1:d1=swp d a pivot) (hi:i=scanUp (fun x=>ltInt x d1[a]!) d1 (b - 1) (a+1)) (hj:j=scanDown (fun x => !ltInt x d1[a]!) d1 i (b - 1)) :
  partition ltInt d a b pivot=if i > j then (j,true,swp d1 j a) else ((partLoop ltInt a (i+1) (j - 1) (swp d1 i j)).1,false,swp (partLoop ltInt a (i+1) (j - 1) (swp d1 i j)).2 (partLoop ltInt a (i+1) (j - 1) (swp d1 i j)).1 a):=by
 subst h1 hi hj
 rfl
theorem partLoop_eq (d:Array Int) {a i j i2 j2:Nat} (hi:i2=scanUp (fun x=>ltInt x d[a]!) d j i) (hj:j2=scanDown (fun x => !ltInt x d[a]!) d i2 j) (h1:i≤i2) (h2:j2≤j) :
  partLoop ltInt a i j d=if i2 > j2 then (j2,d) else partLoop ltInt a (i2+1) (j2 - 1) (swp d i2 j2):=by
 conv=>lhs;unfold partLoop
 simp only [← hi,← hj]
 split
 ·rfl
 ·next h=>rw [dif_pos (by omega)]
theorem partEqLoop_eq (d:Array Int) {a i j i2 j2:Nat} (hi:i2=scanUp (fun x => !ltInt d[a]! x) d j i) (hj:j2=scanDown (fun x=>ltInt d[a]! x) d i2 j) (h1:i≤i2) (h2:j2≤j) :
  partEqLoop ltInt a i j d=if i2 > j2 then (i2,d) else partEqLoop ltInt a (i2+1) (j2 - 1) (swp d i2 j2):=by
 conv=>lhs;unfold partEqLoop
 simp only [← hi,← hj]
 split
 ·rfl
 ·next h=>rw [dif_pos (by omega)]
theorem partEq_any (h:RW w0 blk off N d0 d w) (cap:Nat) {a b pivot:Nat} (ha:a≤pivot) (hp:pivot < b) (hb:b≤N):Calls Tryz.prog 140 #[.slice (some ⟨blk,off,none⟩) N cap,.int .i64 a,.int .i64 b,.int .i64 pivot] w fun e w' =>
  e = .returned (.int .i64 ((partitionEqual ltInt d a b pivot).1:Nat))∧RW w0 blk off N d0 (partitionEqual ltInt d a b pivot).2 w':=by
 have hN:=h.base.few
 have H:=Lib.hid h
 clear h
 go_enter Tryz.func140,Tryz.ntmps140
 have c1:=H.out.cell (j:=a) (by omega)
 have c2:=H.out.cell (j:=pivot) (by omega)
 have f1:=H.out.frozen (j:=a) (by omega)
 have f2:=H.out.frozen (j:=pivot) (by omega)
 obtain ⟨x0,hx⟩:∃ x,x=(d)[a]! := ⟨_,rfl⟩
 obtain ⟨y0,hy⟩:∃ x,x=(d)[pivot]! := ⟨_,rfl⟩
 have HX0:=Lib.hid (And.intro hx hy)
 rw [← hx] at c1
 rw [← hy] at c2
 have g2:(w.setCell ⟨blk,off+(a),none⟩ (.int .u32 y0)).drew.cell? ⟨blk,off+(pivot),none⟩=some (.int .u32 y0):=twice H.out (by omega) (by omega) c2 (by omega)
 clear hx hy
 go_wp2_with fail
 go_region
 have HS0:=Lib.hid (show RW w0 blk off N d0 (swp (d) (a) (pivot)) ((w.setCell ⟨blk,off+(a),none⟩ (.int .u32 y0)).setCell ⟨blk,off+(pivot),none⟩ (.int .u32 x0)) from by
  rw [HX0.out.1,HX0.out.2]
  exact H.out.swp (by omega) (by omega))
 clear f1 f2 c1 c2 g2
 generalize (w.setCell ⟨blk,off+(a),none⟩ (.int .u32 y0)).setCell ⟨blk,off+(pivot),none⟩ (.int .u32 x0)=ws at HS0 ⊢
 obtain ⟨d1,hd1⟩:∃ d1,d1=swp d a pivot:=⟨_,rfl⟩
 rw [← hd1] at HS0
 have HP:=Lib.hid (show partEqLoop ltInt a (a+1) (b - 1) d1=partitionEqual ltInt d a b pivot from by rw [hd1];rfl)
 clear hd1
 go_wp2
 go_loopw [9,10] (fun v u wr=>∃ (i j:Nat) (dk:Array Int),v = .int .i64 (i:Int)∧u = .int .i64 (j:Int)∧a+1≤i∧i≤j+2∧j < b∧RW w0 blk off N d0 dk wr∧partEqLoop ltInt a i j dk=partitionEqual ltInt d a b pivot) (fun v u _=>((intOf u).toNat+2) - (intOf v).toNat)
 case atStart=>exact ⟨a+1,b - 1,d1,by go_num,by go_num,by omega,by omega,by omega,HS0.out.drew,HP.out⟩
 case round =>
  obtain ⟨i,j,dk,rfl,rfl,hi1,hi2,hj,hR,hE⟩:=hrel
  have HR:=Lib.hid hR
  have HE:=Lib.hid hE
  clear hR hE
  go_upto_block 2 with fail
  go_cut [9] from 29 to 82 (fun v wx=>∃ k:Nat,v = .int .i64 (k:Int)∧(i≤k∧k≤j+2)∧k=scanUp (fun x => !ltInt (dk)[a]! x) (dk) (j) (i)∧RW w0 blk off N d0 (dk) wx)
  case first =>
   go_wp2_with fail
   go_loopw [9] (fun v wr=>∃ k:Nat,v = .int .i64 (k:Int)∧(i≤k∧k≤j+2)∧RW w0 blk off N d0 (dk) wr∧scanUp (fun x => !ltInt (dk)[a]! x) (dk) (j) k=scanUp (fun x => !ltInt (dk)[a]! x) (dk) (j) (i)) (fun v _=>(j)+2 - (intOf v).toNat)
   case atStart=>exact ⟨i,by go_num,by omega,HR.out,rfl⟩
   case round =>
    obtain ⟨k,rfl,hk,hR,hE⟩:=hrel
    have HRk:=Lib.hid hR
    have HEk:=Lib.hid hE
    clear hE hR
    by_cases hkj:k≤j
    ·have hkji:(k:Int)≤((j:Nat):Int):=by omega
     have c1:=HRk.out.cell (j:=k) (by omega)
     have c2:=HRk.out.cell (j:=a) (by omega)
     obtain ⟨x,hx⟩:∃ x,x=(dk)[k]! := ⟨_,rfl⟩
     obtain ⟨y,hy⟩:∃ x,x=(dk)[a]! := ⟨_,rfl⟩
     have HX:=Lib.hid (And.intro hx hy)
     rw [← hx] at c1
     rw [← hy] at c2
     clear hx hy
     go_wp2_with fail
     go_quiet ((go_at_call 139;exact Calls.quiet_of_same (less_q _ _ _)))
     have HQ:=Lib.hid (HRk.out.drewN nq)
     clear c1 c2
     generalize wr.drewN nq=wq at HQ ⊢
     rcases Bool.eq_false_or_eq_true (ltInt y x) with hxy|hxy
     ·have HXY:=Lib.hid hxy
      rw [hxy]
      clear hxy
      go_wp2
      go_meet
      case rel=>exact ⟨k,rfl,by omega,by
       rw [← HEk.out]
       unfold scanUp
       rw [if_neg (by
        have h1:=HXY.out
        rw [HX.out.1,HX.out.2] at h1
        simp [h1])],HQ.out⟩
     ·have HXY:=Lib.hid hxy
      rw [hxy]
      clear hxy
      go_wp2
      go_roundw
      case rel=>exact ⟨k+1,by go_num,by omega,HQ.out,by
       rw [← HEk.out]
       conv=>rhs;unfold scanUp
       rw [if_pos (by
        have h1:=HXY.out
        rw [HX.out.1,HX.out.2] at h1
        simp [h1,hkj])]⟩
      case measure=>(simp [intOf] <;> omega)
    ·have hkji:¬ (k:Int)≤((j:Nat):Int):=by omega
     go_wp2_with fail
     go_quiet (fail)
     have HQ:=Lib.hid (HRk.out.drewN nq)
     generalize wr.drewN nq=wq at HQ ⊢
     go_wp2
     go_meet
     case rel=>exact ⟨k,rfl,by omega,by
      rw [← HEk.out]
      unfold scanUp
      rw [if_neg (by simp;omega)],HQ.out⟩
  case rest =>
   obtain ⟨i2,rfl,hb_i2,hv,hR⟩:=hcut
   have HV_i2:=Lib.hid hv
   have Ri2:=Lib.hid hR
   clear hv hR
   go_upto_block 4 with fail
   go_cut [10] from 29 to 82 (fun v wx=>∃ k:Nat,v = .int .i64 (k:Int)∧(i2≤k+2∧k≤j)∧k=scanDown (fun x=>ltInt (dk)[a]! x) (dk) (i2) (j)∧RW w0 blk off N d0 (dk) wx)
   case first =>
    go_wp2_with fail
    go_loopw [10] (fun v wr=>∃ k:Nat,v = .int .i64 (k:Int)∧(i2≤k+2∧k≤j)∧RW w0 blk off N d0 (dk) wr∧scanDown (fun x=>ltInt (dk)[a]! x) (dk) (i2) k=scanDown (fun x=>ltInt (dk)[a]! x) (dk) (i2) (j)) (fun v _=>(intOf v).toNat)
    case atStart=>exact ⟨j,by go_num,by omega,Ri2.out,rfl⟩
    case round =>
     obtain ⟨k,rfl,hk,hR,hE⟩:=hrel
     have HRk:=Lib.hid hR
     have HEk:=Lib.hid hE
     clear hE hR
     by_cases hkj:i2≤k
     ·have hkji:((i2:Nat):Int)≤(k:Int):=by omega
      have c1:=HRk.out.cell (j:=k) (by omega)
      have c2:=HRk.out.cell (j:=a) (by omega)
      obtain ⟨x,hx⟩:∃ x,x=(dk)[k]! := ⟨_,rfl⟩
      obtain ⟨y,hy⟩:∃ x,x=(dk)[a]! := ⟨_,rfl⟩
      have HX:=Lib.hid (And.intro hx hy)
      rw [← hx] at c1
      rw [← hy] at c2
      clear hx hy
      go_wp2_with fail
      go_quiet ((go_at_call 139;exact Calls.quiet_of_same (less_q _ _ _)))
      have HQ:=Lib.hid (HRk.out.drewN nq)
      clear c1 c2
      generalize wr.drewN nq=wq at HQ ⊢
      rcases Bool.eq_false_or_eq_true (ltInt y x) with hxy|hxy
      ·have HXY:=Lib.hid hxy
       rw [hxy]
       clear hxy
       go_wp2
       go_roundw
       case rel=>exact ⟨k - 1,by go_num,by omega,HQ.out,by
        rw [← HEk.out]
        obtain ⟨m,rfl⟩:∃ m,k=m+1:=⟨k - 1,by omega⟩
        conv=>rhs;unfold scanDown
        rw [if_pos (by
         have h1:=HXY.out
         rw [HX.out.1,HX.out.2] at h1
         simp [h1];omega)]
        rfl⟩
       case measure=>(simp [intOf] <;> omega)
      ·have HXY:=Lib.hid hxy
       rw [hxy]
       clear hxy
       go_wp2
       go_meet
       case rel=>exact ⟨k,rfl,by omega,by
        rw [← HEk.out]
        obtain ⟨m,rfl⟩:∃ m,k=m+1:=⟨k - 1,by omega⟩
        unfold scanDown
        rw [if_neg (by
         have h1:=HXY.out
         rw [HX.out.1,HX.out.2] at h1
         simp [h1])],HQ.out⟩
     ·have hkji:¬ ((i2:Nat):Int)≤(k:Int):=by omega
      go_wp2_with fail
      go_quiet (fail)
      have HQ:=Lib.hid (HRk.out.drewN nq)
      generalize wr.drewN nq=wq at HQ ⊢
      go_wp2
      go_meet
      case rel=>exact ⟨k,rfl,by omega,by
       rw [← HEk.out]
       cases k with
       | zero=>rfl
       | succ m =>
        unfold scanDown
        rw [if_neg (by simp;omega)],HQ.out⟩
   case rest =>
    obtain ⟨j2,rfl,hb_j2,hv,hR⟩:=hcut
    have HV_j2:=Lib.hid hv
    have Rj2:=Lib.hid hR
    clear hv hR
    have HL:=Lib.hid (partEqLoop_eq dk HV_i2.out HV_j2.out hb_i2.1 hb_j2.2)
    clear HR Ri2
    by_cases hij:j2 < i2
    ·have hiji:(j2:Int) < (i2:Int):=by omega
     go_wp2
     go_ret
     have h1:=HE.out
     rw [HL.out,if_pos hij] at h1
     exact ⟨by rw [← h1];rfl,by rw [← h1];exact Rj2.out⟩
    ·have hiji:¬ (j2:Int) < (i2:Int):=by omega
     have c1:=Rj2.out.cell (j:=i2) (by omega)
     have c2:=Rj2.out.cell (j:=j2) (by omega)
     have f1:=Rj2.out.frozen (j:=i2) (by omega)
     have f2:=Rj2.out.frozen (j:=j2) (by omega)
     obtain ⟨x1,hx⟩:∃ x,x=(dk)[i2]! := ⟨_,rfl⟩
     obtain ⟨y1,hy⟩:∃ x,x=(dk)[j2]! := ⟨_,rfl⟩
     have HX1:=Lib.hid (And.intro hx hy)
     rw [← hx] at c1
     rw [← hy] at c2
     have g2:(wc.setCell ⟨blk,off+(i2),none⟩ (.int .u32 y1)).drew.cell? ⟨blk,off+(j2),none⟩=some (.int .u32 y1):=twice Rj2.out (by omega) (by omega) c2 (by omega)
     clear hx hy
     go_wp2_with fail
     go_region
     have HS1:=Lib.hid (show RW w0 blk off N d0 (swp (dk) (i2) (j2)) ((wc.setCell ⟨blk,off+(i2),none⟩ (.int .u32 y1)).setCell ⟨blk,off+(j2),none⟩ (.int .u32 x1)) from by
      rw [HX1.out.1,HX1.out.2]
      exact Rj2.out.swp (by omega) (by omega))
     clear f1 f2 c1 c2 g2
     generalize (wc.setCell ⟨blk,off+(i2),none⟩ (.int .u32 y1)).setCell ⟨blk,off+(j2),none⟩ (.int .u32 x1)=wt at HS1 ⊢
     go_wp2
     go_roundw
     case rel=>exact ⟨i2+1,j2 - 1,_,by go_num,by go_num,by omega,by omega,by omega,HS1.out.drew,by
      have h1:=HE.out
      rw [HL.out,if_neg hij] at h1
      exact h1⟩
     case measure=>(simp [intOf] <;> omega)
theorem part_any (h:RW w0 blk off N d0 d w) (cap:Nat) {a b pivot:Nat} (ha:a≤pivot) (hp:pivot < b) (hb:b≤N):Calls Tryz.prog 141 #[.slice (some ⟨blk,off,none⟩) N cap,.int .i64 a,.int .i64 b,.int .i64 pivot] w fun e w' =>
  e = .returned (.tuple #[.int .i64 ((partition ltInt d a b pivot).1:Nat),.bool (partition ltInt d a b pivot).2.1])∧RW w0 blk off N d0 (partition ltInt d a b pivot).2.2 w':=by
 have hN:=h.base.few
 have H:=Lib.hid h
 clear h
 go_enter Tryz.func141,Tryz.ntmps141
 have c1:=H.out.cell (j:=a) (by omega)
 have c2:=H.out.cell (j:=pivot) (by omega)
 have f1:=H.out.frozen (j:=a) (by omega)
 have f2:=H.out.frozen (j:=pivot) (by omega)
 obtain ⟨x0,hx⟩:∃ x,x=(d)[a]! := ⟨_,rfl⟩
 obtain ⟨y0,hy⟩:∃ x,x=(d)[pivot]! := ⟨_,rfl⟩
 have HX0:=Lib.hid (And.intro hx hy)
 rw [← hx] at c1
 rw [← hy] at c2
 have g2:(w.setCell ⟨blk,off+(a),none⟩ (.int .u32 y0)).drew.cell? ⟨blk,off+(pivot),none⟩=some (.int .u32 y0):=twice H.out (by omega) (by omega) c2 (by omega)
 clear hx hy
 go_wp2_with fail
 go_region
 have HS0:=Lib.hid (show RW w0 blk off N d0 (swp (d) (a) (pivot)) ((w.setCell ⟨blk,off+(a),none⟩ (.int .u32 y0)).setCell ⟨blk,off+(pivot),none⟩ (.int .u32 x0)) from by
  rw [HX0.out.1,HX0.out.2]
  exact H.out.swp (by omega) (by omega))
 clear f1 f2 c1 c2 g2
 generalize (w.setCell ⟨blk,off+(a),none⟩ (.int .u32 y0)).setCell ⟨blk,off+(pivot),none⟩ (.int .u32 x0)=ws at HS0 ⊢
 obtain ⟨d1,hd1⟩:∃ d1,d1=swp d a pivot:=⟨_,rfl⟩
 rw [← hd1] at HS0
 have HD1:=Lib.hid hd1
 have HS0:=Lib.hid HS0.out.drew
 clear hd1
 obtain ⟨j,hj⟩:∃ j,b=j+1:=⟨b - 1,by omega⟩
 have hji:(b:Int) - 1=(j:Int):=by omega
 have HJ:=Lib.hid hj
 clear hj
 go_upto_block 0 with fail
 go_cut [10] from 12 to 98 (fun v wx=>∃ k:Nat,v = .int .i64 (k:Int)∧((a+1)≤k∧k≤j+2)∧k=scanUp (fun x=>ltInt x (d1)[a]!) (d1) (j) ((a+1))∧RW w0 blk off N d0 (d1) wx)
 case first =>
  go_wp2_with fail
  go_loopw [10] (fun v wr=>∃ k:Nat,v = .int .i64 (k:Int)∧((a+1)≤k∧k≤j+2)∧RW w0 blk off N d0 (d1) wr∧scanUp (fun x=>ltInt x (d1)[a]!) (d1) (j) k=scanUp (fun x=>ltInt x (d1)[a]!) (d1) (j) ((a+1))) (fun v _=>(j)+2 - (intOf v).toNat)
  case atStart=>exact ⟨(a+1),by go_num,by omega,HS0.out,rfl⟩
  case round =>
   obtain ⟨k,rfl,hk,hR,hE⟩:=hrel
   have HRk:=Lib.hid hR
   have HEk:=Lib.hid hE
   clear hE hR
   by_cases hkj:k≤j
   ·have hkji:(k:Int)≤((j:Nat):Int):=by omega
    have c1:=HRk.out.cell (j:=k) (by omega)
    have c2:=HRk.out.cell (j:=a) (by omega)
    obtain ⟨x,hx⟩:∃ x,x=(d1)[k]! := ⟨_,rfl⟩
    obtain ⟨y,hy⟩:∃ x,x=(d1)[a]! := ⟨_,rfl⟩
    have HX:=Lib.hid (And.intro hx hy)
    rw [← hx] at c1
    rw [← hy] at c2
    clear hx hy
    go_wp2_with fail
    go_quiet ((go_at_call 139;exact Calls.quiet_of_same (less_q _ _ _)))
    have HQ:=Lib.hid (HRk.out.drewN nq)
    clear c1 c2
    generalize wr.drewN nq=wq at HQ ⊢
    rcases Bool.eq_false_or_eq_true (ltInt x y) with hxy|hxy
    ·have HXY:=Lib.hid hxy
     rw [hxy]
     clear hxy
     go_wp2
     go_roundw
     case rel=>exact ⟨k+1,by go_num,by omega,HQ.out,by
      rw [← HEk.out]
      conv=>rhs;unfold scanUp
      rw [if_pos (by
       have h1:=HXY.out
       rw [HX.out.1,HX.out.2] at h1
       simp [h1,hkj])]⟩
     case measure=>(simp [intOf] <;> omega)
    ·have HXY:=Lib.hid hxy
     rw [hxy]
     clear hxy
     go_wp2
     go_meet
     case rel=>exact ⟨k,rfl,by omega,by
      rw [← HEk.out]
      unfold scanUp
      rw [if_neg (by
       have h1:=HXY.out
       rw [HX.out.1,HX.out.2] at h1
       simp [h1])],HQ.out⟩
   ·have hkji:¬ (k:Int)≤((j:Nat):Int):=by omega
    go_wp2_with fail
    go_quiet (fail)
    have HQ:=Lib.hid (HRk.out.drewN nq)
    generalize wr.drewN nq=wq at HQ ⊢
    go_wp2
    go_meet
    case rel=>exact ⟨k,rfl,by omega,by
     rw [← HEk.out]
     unfold scanUp
     rw [if_neg (by simp;omega)],HQ.out⟩
 case rest =>
  obtain ⟨i1,rfl,hb_i1,hv,hR⟩:=hcut
  have HV_i1:=Lib.hid hv
  have Ri1:=Lib.hid hR
  clear hv hR
  go_upto_block 2 with fail
  go_cut [11] from 12 to 98 (fun v wx=>∃ k:Nat,v = .int .i64 (k:Int)∧(i1≤k+2∧k≤j)∧k=scanDown (fun x => !ltInt x (d1)[a]!) (d1) (i1) (j)∧RW w0 blk off N d0 (d1) wx)
  case first =>
   go_wp2_with fail
   go_loopw [11] (fun v wr=>∃ k:Nat,v = .int .i64 (k:Int)∧(i1≤k+2∧k≤j)∧RW w0 blk off N d0 (d1) wr∧scanDown (fun x => !ltInt x (d1)[a]!) (d1) (i1) k=scanDown (fun x => !ltInt x (d1)[a]!) (d1) (i1) (j)) (fun v _=>(intOf v).toNat)
   case atStart=>exact ⟨j,by go_num,by omega,Ri1.out,rfl⟩
   case round =>
    obtain ⟨k,rfl,hk,hR,hE⟩:=hrel
    have HRk:=Lib.hid hR
    have HEk:=Lib.hid hE
    clear hE hR
    by_cases hkj:i1≤k
    ·have hkji:((i1:Nat):Int)≤(k:Int):=by omega
     have c1:=HRk.out.cell (j:=k) (by omega)
     have c2:=HRk.out.cell (j:=a) (by omega)
     obtain ⟨x,hx⟩:∃ x,x=(d1)[k]! := ⟨_,rfl⟩
     obtain ⟨y,hy⟩:∃ x,x=(d1)[a]! := ⟨_,rfl⟩
     have HX:=Lib.hid (And.intro hx hy)
     rw [← hx] at c1
     rw [← hy] at c2
     clear hx hy
     go_wp2_with fail
     go_quiet ((go_at_call 139;exact Calls.quiet_of_same (less_q _ _ _)))
     have HQ:=Lib.hid (HRk.out.drewN nq)
     clear c1 c2
     generalize wr.drewN nq=wq at HQ ⊢
     rcases Bool.eq_false_or_eq_true (ltInt x y) with hxy|hxy
     ·have HXY:=Lib.hid hxy
      rw [hxy]
      clear hxy
      go_wp2
      go_meet
      case rel=>exact ⟨k,rfl,by omega,by
       rw [← HEk.out]
       obtain ⟨m,rfl⟩:∃ m,k=m+1:=⟨k - 1,by omega⟩
       unfold scanDown
       rw [if_neg (by
        have h1:=HXY.out
        rw [HX.out.1,HX.out.2] at h1
        simp [h1])],HQ.out⟩
     ·have HXY:=Lib.hid hxy
      rw [hxy]
      clear hxy
      go_wp2
      go_roundw
      case rel=>exact ⟨k - 1,by go_num,by omega,HQ.out,by
       rw [← HEk.out]
       obtain ⟨m,rfl⟩:∃ m,k=m+1:=⟨k - 1,by omega⟩
       conv=>rhs;unfold scanDown
       rw [if_pos (by
        have h1:=HXY.out
        rw [HX.out.1,HX.out.2] at h1
        simp [h1];omega)]
       rfl⟩
      case measure=>(simp [intOf] <;> omega)
    ·have hkji:¬ ((i1:Nat):Int)≤(k:Int):=by omega
     go_wp2_with fail
     go_quiet (fail)
     have HQ:=Lib.hid (HRk.out.drewN nq)
     generalize wr.drewN nq=wq at HQ ⊢
     go_wp2
     go_meet
     case rel=>exact ⟨k,rfl,by omega,by
      rw [← HEk.out]
      cases k with
      | zero=>rfl
      | succ m =>
       unfold scanDown
       rw [if_neg (by simp;omega)],HQ.out⟩
  case rest =>
   obtain ⟨j1,rfl,hb_j1,hv,hR⟩:=hcut
   have HV_j1:=Lib.hid hv
   have Rj1:=Lib.hid hR
   clear hv hR
   have HPE:=Lib.hid (part_eq d d1 (a:=a) (b:=b) (i:=i1) (j:=j1) HD1.out (by rw [show b - 1=j from by have:=HJ.out;omega];exact HV_i1.out) (by rw [show b - 1=j from by have:=HJ.out;omega];exact HV_j1.out))
   clear Ri1 HS0
   by_cases hij:j1 < i1
   ·have hiji:(j1:Int) < (i1:Int):=by omega
    have c1:=Rj1.out.cell (j:=j1) (by omega)
    have c2:=Rj1.out.cell (j:=a) (by omega)
    have f1:=Rj1.out.frozen (j:=j1) (by omega)
    have f2:=Rj1.out.frozen (j:=a) (by omega)
    obtain ⟨x1,hx⟩:∃ x,x=(d1)[j1]! := ⟨_,rfl⟩
    obtain ⟨y1,hy⟩:∃ x,x=(d1)[a]! := ⟨_,rfl⟩
    have HX1:=Lib.hid (And.intro hx hy)
    rw [← hx] at c1
    rw [← hy] at c2
    have g2:(wc.setCell ⟨blk,off+(j1),none⟩ (.int .u32 y1)).drew.cell? ⟨blk,off+(a),none⟩=some (.int .u32 y1):=twice Rj1.out (by omega) (by omega) c2 (by omega)
    clear hx hy
    go_wp2_with fail
    go_region
    have HS1:=Lib.hid (show RW w0 blk off N d0 (swp (d1) (j1) (a)) ((wc.setCell ⟨blk,off+(j1),none⟩ (.int .u32 y1)).setCell ⟨blk,off+(a),none⟩ (.int .u32 x1)) from by
     rw [HX1.out.1,HX1.out.2]
     exact Rj1.out.swp (by omega) (by omega))
    clear f1 f2 c1 c2 g2
    generalize (wc.setCell ⟨blk,off+(j1),none⟩ (.int .u32 y1)).setCell ⟨blk,off+(a),none⟩ (.int .u32 x1)=wt at HS1 ⊢
    go_wp2
    go_returns
    rw [HPE.out,if_pos hij]
    exact ⟨rfl,HS1.out.drew⟩
   ·have hiji:¬ (j1:Int) < (i1:Int):=by omega
    have c1:=Rj1.out.cell (j:=i1) (by omega)
    have c2:=Rj1.out.cell (j:=j1) (by omega)
    have f1:=Rj1.out.frozen (j:=i1) (by omega)
    have f2:=Rj1.out.frozen (j:=j1) (by omega)
    obtain ⟨x1,hx⟩:∃ x,x=(d1)[i1]! := ⟨_,rfl⟩
    obtain ⟨y1,hy⟩:∃ x,x=(d1)[j1]! := ⟨_,rfl⟩
    have HX1:=Lib.hid (And.intro hx hy)
    rw [← hx] at c1
    rw [← hy] at c2
    have g2:(wc.setCell ⟨blk,off+(i1),none⟩ (.int .u32 y1)).drew.cell? ⟨blk,off+(j1),none⟩=some (.int .u32 y1):=twice Rj1.out (by omega) (by omega) c2 (by omega)
    clear hx hy
    go_wp2_with fail
    go_region
    have HS1:=Lib.hid (show RW w0 blk off N d0 (swp (d1) (i1) (j1)) ((wc.setCell ⟨blk,off+(i1),none⟩ (.int .u32 y1)).setCell ⟨blk,off+(j1),none⟩ (.int .u32 x1)) from by
     rw [HX1.out.1,HX1.out.2]
     exact Rj1.out.swp (by omega) (by omega))
    clear f1 f2 c1 c2 g2
    generalize (wc.setCell ⟨blk,off+(i1),none⟩ (.int .u32 y1)).setCell ⟨blk,off+(j1),none⟩ (.int .u32 x1)=wt at HS1 ⊢
    obtain ⟨d2,hd2⟩:∃ d2,d2=swp d1 i1 j1:=⟨_,rfl⟩
    rw [← hd2] at HS1
    have HP2:=Lib.hid (HPE.out.trans (by rw [if_neg hij,← hd2]))
    clear hd2 HPE Rj1
    go_wp2
    go_loopw [10,11] (fun v u wr=>∃ (i j:Nat) (dk:Array Int),v = .int .i64 (i:Int)∧u = .int .i64 (j:Int)∧a+1≤i∧i≤j+2∧j < b∧RW w0 blk off N d0 dk wr∧partLoop ltInt a i j dk=partLoop ltInt a (i1+1) (j1 - 1) d2) (fun v u _=>((intOf u).toNat+2) - (intOf v).toNat)
    case atStart=>exact ⟨i1+1,j1 - 1,d2,by go_num,by go_num,by omega,by omega,by omega,HS1.out.drew,rfl⟩
    case round =>
     obtain ⟨i,j,dk,rfl,rfl,hi1,hi2,hj,hR,hE⟩:=hrel
     have HR:=Lib.hid hR
     have HE:=Lib.hid hE
     clear hR hE
     go_upto_block 6 with fail
     go_cut [10] from 99 to 152 (fun v wx=>∃ k:Nat,v = .int .i64 (k:Int)∧(i≤k∧k≤j+2)∧k=scanUp (fun x=>ltInt x (dk)[a]!) (dk) (j) (i)∧RW w0 blk off N d0 (dk) wx)
     case first =>
      go_wp2_with fail
      go_loopw [10] (fun v wr=>∃ k:Nat,v = .int .i64 (k:Int)∧(i≤k∧k≤j+2)∧RW w0 blk off N d0 (dk) wr∧scanUp (fun x=>ltInt x (dk)[a]!) (dk) (j) k=scanUp (fun x=>ltInt x (dk)[a]!) (dk) (j) (i)) (fun v _=>(j)+2 - (intOf v).toNat)
      case atStart=>exact ⟨i,by go_num,by omega,HR.out,rfl⟩
      case round =>
       obtain ⟨k,rfl,hk,hR,hE⟩:=hrel
       have HRk:=Lib.hid hR
       have HEk:=Lib.hid hE
       clear hE hR
       by_cases hkj:k≤j
       ·have hkji:(k:Int)≤((j:Nat):Int):=by omega
        have c1:=HRk.out.cell (j:=k) (by omega)
        have c2:=HRk.out.cell (j:=a) (by omega)
        obtain ⟨x,hx⟩:∃ x,x=(dk)[k]! := ⟨_,rfl⟩
        obtain ⟨y,hy⟩:∃ x,x=(dk)[a]! := ⟨_,rfl⟩
        have HX:=Lib.hid (And.intro hx hy)
        rw [← hx] at c1
        rw [← hy] at c2
        clear hx hy
        go_wp2_with fail
        go_quiet ((go_at_call 139;exact Calls.quiet_of_same (less_q _ _ _)))
        have HQ:=Lib.hid (HRk.out.drewN nq)
        clear c1 c2
        generalize wr.drewN nq=wq at HQ ⊢
        rcases Bool.eq_false_or_eq_true (ltInt x y) with hxy|hxy
        ·have HXY:=Lib.hid hxy
         rw [hxy]
         clear hxy
         go_wp2
         go_roundw
         case rel=>exact ⟨k+1,by go_num,by omega,HQ.out,by
          rw [← HEk.out]
          conv=>rhs;unfold scanUp
          rw [if_pos (by
           have h1:=HXY.out
           rw [HX.out.1,HX.out.2] at h1
           simp [h1,hkj])]⟩
         case measure=>(simp [intOf] <;> omega)
        ·have HXY:=Lib.hid hxy
         rw [hxy]
         clear hxy
         go_wp2
         go_meet
         case rel=>exact ⟨k,rfl,by omega,by
          rw [← HEk.out]
          unfold scanUp
          rw [if_neg (by
           have h1:=HXY.out
           rw [HX.out.1,HX.out.2] at h1
           simp [h1])],HQ.out⟩
       ·have hkji:¬ (k:Int)≤((j:Nat):Int):=by omega
        go_wp2_with fail
        go_quiet (fail)
        have HQ:=Lib.hid (HRk.out.drewN nq)
        generalize wr.drewN nq=wq at HQ ⊢
        go_wp2
        go_meet
        case rel=>exact ⟨k,rfl,by omega,by
         rw [← HEk.out]
         unfold scanUp
         rw [if_neg (by simp;omega)],HQ.out⟩
     case rest =>
      obtain ⟨i2,rfl,hb_i2,hv,hR⟩:=hcut
      have HV_i2:=Lib.hid hv
      have Ri2:=Lib.hid hR
      clear hv hR
      go_upto_block 8 with fail
      go_cut [11] from 99 to 152 (fun v wx=>∃ k:Nat,v = .int .i64 (k:Int)∧(i2≤k+2∧k≤j)∧k=scanDown (fun x => !ltInt x (dk)[a]!) (dk) (i2) (j)∧RW w0 blk off N d0 (dk) wx)
      case first =>
       go_wp2_with fail
       go_loopw [11] (fun v wr=>∃ k:Nat,v = .int .i64 (k:Int)∧(i2≤k+2∧k≤j)∧RW w0 blk off N d0 (dk) wr∧scanDown (fun x => !ltInt x (dk)[a]!) (dk) (i2) k=scanDown (fun x => !ltInt x (dk)[a]!) (dk) (i2) (j)) (fun v _=>(intOf v).toNat)
       case atStart=>exact ⟨j,by go_num,by omega,Ri2.out,rfl⟩
       case round =>
        obtain ⟨k,rfl,hk,hR,hE⟩:=hrel
        have HRk:=Lib.hid hR
        have HEk:=Lib.hid hE
        clear hE hR
        by_cases hkj:i2≤k
        ·have hkji:((i2:Nat):Int)≤(k:Int):=by omega
         have c1:=HRk.out.cell (j:=k) (by omega)
         have c2:=HRk.out.cell (j:=a) (by omega)
         obtain ⟨x,hx⟩:∃ x,x=(dk)[k]! := ⟨_,rfl⟩
         obtain ⟨y,hy⟩:∃ x,x=(dk)[a]! := ⟨_,rfl⟩
         have HX:=Lib.hid (And.intro hx hy)
         rw [← hx] at c1
         rw [← hy] at c2
         clear hx hy
         go_wp2_with fail
         go_quiet ((go_at_call 139;exact Calls.quiet_of_same (less_q _ _ _)))
         have HQ:=Lib.hid (HRk.out.drewN nq)
         clear c1 c2
         generalize wr.drewN nq=wq at HQ ⊢
         rcases Bool.eq_false_or_eq_true (ltInt x y) with hxy|hxy
         ·have HXY:=Lib.hid hxy
          rw [hxy]
          clear hxy
          go_wp2
          go_meet
          case rel=>exact ⟨k,rfl,by omega,by
           rw [← HEk.out]
           obtain ⟨m,rfl⟩:∃ m,k=m+1:=⟨k - 1,by omega⟩
           unfold scanDown
           rw [if_neg (by
            have h1:=HXY.out
            rw [HX.out.1,HX.out.2] at h1
            simp [h1])],HQ.out⟩
         ·have HXY:=Lib.hid hxy
          rw [hxy]
          clear hxy
          go_wp2
          go_roundw
          case rel=>exact ⟨k - 1,by go_num,by omega,HQ.out,by
           rw [← HEk.out]
           obtain ⟨m,rfl⟩:∃ m,k=m+1:=⟨k - 1,by omega⟩
           conv=>rhs;unfold scanDown
           rw [if_pos (by
            have h1:=HXY.out
            rw [HX.out.1,HX.out.2] at h1
            simp [h1];omega)]
           rfl⟩
          case measure=>(simp [intOf] <;> omega)
        ·have hkji:¬ ((i2:Nat):Int)≤(k:Int):=by omega
         go_wp2_with fail
         go_quiet (fail)
         have HQ:=Lib.hid (HRk.out.drewN nq)
         generalize wr.drewN nq=wq at HQ ⊢
         go_wp2
         go_meet
         case rel=>exact ⟨k,rfl,by omega,by
          rw [← HEk.out]
          cases k with
          | zero=>rfl
          | succ m =>
           unfold scanDown
           rw [if_neg (by simp;omega)],HQ.out⟩
      case rest =>
       obtain ⟨j2,rfl,hb_j2,hv,hR⟩:=hcut
       have HV_j2:=Lib.hid hv
       have Rj2:=Lib.hid hR
       clear hv hR
       have HL:=Lib.hid (partLoop_eq dk HV_i2.out HV_j2.out hb_i2.1 hb_j2.2)
       clear HR Ri2
       by_cases hij2:j2 < i2
       ·have hiji2:(j2:Int) < (i2:Int):=by omega
        have c1:=Rj2.out.cell (j:=j2) (by omega)
        have c2:=Rj2.out.cell (j:=a) (by omega)
        have f1:=Rj2.out.frozen (j:=j2) (by omega)
        have f2:=Rj2.out.frozen (j:=a) (by omega)
        obtain ⟨x2,hx⟩:∃ x,x=(dk)[j2]! := ⟨_,rfl⟩
        obtain ⟨y2,hy⟩:∃ x,x=(dk)[a]! := ⟨_,rfl⟩
        have HX2:=Lib.hid (And.intro hx hy)
        rw [← hx] at c1
        rw [← hy] at c2
        have g2:(wc.setCell ⟨blk,off+(j2),none⟩ (.int .u32 y2)).drew.cell? ⟨blk,off+(a),none⟩=some (.int .u32 y2):=twice Rj2.out (by omega) (by omega) c2 (by omega)
        clear hx hy
        go_wp2_with fail
        go_region
        have HS2:=Lib.hid (show RW w0 blk off N d0 (swp (dk) (j2) (a)) ((wc.setCell ⟨blk,off+(j2),none⟩ (.int .u32 y2)).setCell ⟨blk,off+(a),none⟩ (.int .u32 x2)) from by
         rw [HX2.out.1,HX2.out.2]
         exact Rj2.out.swp (by omega) (by omega))
        clear f1 f2 c1 c2 g2
        generalize (wc.setCell ⟨blk,off+(j2),none⟩ (.int .u32 y2)).setCell ⟨blk,off+(a),none⟩ (.int .u32 x2)=wv at HS2 ⊢
        go_wp2
        go_returns
        have h1:=HE.out
        rw [HL.out,if_pos hij2] at h1
        rw [HP2.out,← h1]
        exact ⟨rfl,HS2.out.drew⟩
       ·have hiji2:¬ (j2:Int) < (i2:Int):=by omega
        have c1:=Rj2.out.cell (j:=i2) (by omega)
        have c2:=Rj2.out.cell (j:=j2) (by omega)
        have f1:=Rj2.out.frozen (j:=i2) (by omega)
        have f2:=Rj2.out.frozen (j:=j2) (by omega)
        obtain ⟨x2,hx⟩:∃ x,x=(dk)[i2]! := ⟨_,rfl⟩
        obtain ⟨y2,hy⟩:∃ x,x=(dk)[j2]! := ⟨_,rfl⟩
        have HX2:=Lib.hid (And.intro hx hy)
        rw [← hx] at c1
        rw [← hy] at c2
        have g2:(wc.setCell ⟨blk,off+(i2),none⟩ (.int .u32 y2)).drew.cell? ⟨blk,off+(j2),none⟩=some (.int .u32 y2):=twice Rj2.out (by omega) (by omega) c2 (by omega)
        clear hx hy
        go_wp2_with fail
        go_region
        have HS2:=Lib.hid (show RW w0 blk off N d0 (swp (dk) (i2) (j2)) ((wc.setCell ⟨blk,off+(i2),none⟩ (.int .u32 y2)).setCell ⟨blk,off+(j2),none⟩ (.int .u32 x2)) from by
         rw [HX2.out.1,HX2.out.2]
         exact Rj2.out.swp (by omega) (by omega))
        clear f1 f2 c1 c2 g2
        generalize (wc.setCell ⟨blk,off+(i2),none⟩ (.int .u32 y2)).setCell ⟨blk,off+(j2),none⟩ (.int .u32 x2)=wv at HS2 ⊢
        go_wp2
        go_roundw
        case rel=>exact ⟨i2+1,j2 - 1,_,by go_num,by go_num,by omega,by omega,by omega,HS2.out.drew,by
         have h1:=HE.out
         rw [HL.out,if_neg hij2] at h1
         exact h1⟩
        case measure=>(simp [intOf] <;> omega)
end
end Go.Proofs.YtgjofinbdigmcaaGreat.Srt

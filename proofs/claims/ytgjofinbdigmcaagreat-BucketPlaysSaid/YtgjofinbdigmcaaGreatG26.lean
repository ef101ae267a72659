/- The insertion sort that gives up after some steps. The pivot that is chosen: two in their order, the median of three, of neighbours. The library's facts, laid at this translation by the kit's tools. -/
import Derived.Test.YtgjofinbdigmcaaGreatG24
import Derived.Deep.CutBlock
import Derived.Handy
import Derived.Test.YtgjofinbdigmcaaGreatG02
import Derived.Shelf.SlGeneric
import Derived.Shelf.SlSortCmp.Xorshift
import Derived.Ground.SlsfProg
import Derived.Test.YtgjofinbdigmcaaGreatProg
set_option linter.unusedSimpArgs false
set_option linter.unusedVariables false
set_option maxHeartbeats 2000000
set_option maxRecDepth 100000
section
namespace Go.Proofs.YtgjofinbdigmcaaGreat.Srt
open Go.Proofs.YtgjofinbdigmcaaGreat.Mem
open Go.RowKit Go.Sort
section
variable {w0 w w':World} {blk off N:Nat} {d0 d d':Array Int}
def stepP (d:Array Int) (a b i:Nat):Array Int :=
 if b - i ≥ 2 then shiftUp ltInt b (i+1) (if i - a ≥ 2 then shiftDown ltInt (i - 1) (swp d i (i - 1)) else swp d i (i - 1)) else if i - a ≥ 2 then shiftDown ltInt (i - 1) (swp d i (i - 1)) else swp d i (i - 1)
theorem pins_eq (d:Array Int) {a b s i i2:Nat} (h:i2=scanSorted ltInt d b i):partialIns ltInt a b (s+1) i d=if i2=b then (d,true) else if b - a < 50 then (d,false) else partialIns ltInt a b s i2 (stepP d a b i2):=by
 subst h
 conv=>lhs;unfold partialIns
 rfl
theorem pins_any (h:RW w0 blk off N d0 d w) (cap:Nat) {a b:Nat} (hab:a < b) (hb:b≤N):Calls Tryz.prog 138 #[.slice (some ⟨blk,off,none⟩) N cap,.int .i64 a,.int .i64 b] w fun e w' =>
  e = .returned (.bool (partialInsertionSort ltInt d a b).2)∧RW w0 blk off N d0 (partialInsertionSort ltInt d a b).1 w':=by
 have hN:=h.base.few
 have H:=Lib.hid h
 clear h
 go_enter Tryz.func138,Tryz.ntmps138
 go_wp2
 go_loopw [7,8] (fun v u wr=>∃ (i c:Nat) (dk:Array Int),v = .int .i64 (i:Int)∧u = .int .i64 (c:Int)∧a+1≤i∧i≤b∧c≤5∧RW w0 blk off N d0 dk wr∧partialIns ltInt a b (5 - c) i dk=partialInsertionSort ltInt d a b) (fun v u _=>5 - (intOf u).toNat)
 case atStart=>exact ⟨a+1,0,d,by go_num,rfl,by omega,by omega,by omega,H.out,rfl⟩
 case round =>
  obtain ⟨i,c,dk,rfl,rfl,hi1,hi2,hc,hR,hE⟩:=hrel
  have HR:=Lib.hid hR
  have HE:=Lib.hid hE
  clear hR hE
  by_cases hc5:c < 5
  ·have hc5i:(c:Int) < 5:=by omega
   go_upto_block 2 with fail
   go_cut [7] from 13 to 132 (fun v wx=>∃ k:Nat,v = .int .i64 (k:Int)∧(i≤k∧k≤b)∧k=scanSorted ltInt dk b i∧RW w0 blk off N d0 dk wx)
   case first =>
    go_wp2_with fail
    go_loopw [7] (fun v wr=>∃ k:Nat,v = .int .i64 (k:Int)∧(i≤k∧k≤b)∧RW w0 blk off N d0 dk wr∧scanSorted ltInt dk b k=scanSorted ltInt dk b i) (fun v _=>b - (intOf v).toNat)
    case atStart=>exact ⟨i,rfl,by omega,HR.out,rfl⟩
    case round =>
     obtain ⟨k,rfl,hk,hR,hE⟩:=hrel
     have HRk:=Lib.hid hR
     have HEk:=Lib.hid hE
     clear hR hE
     by_cases hkb:k < b
     ·have hkbi:(k:Int) < (b:Int):=by omega
      have c1:=HRk.out.cell (j:=k) (by omega)
      have c2:=HRk.out.cell (j:=k - 1) (by omega)
      obtain ⟨x1,hx⟩:∃ x,x=(dk)[k]! := ⟨_,rfl⟩
      obtain ⟨y1,hy⟩:∃ x,x=(dk)[k - 1]! := ⟨_,rfl⟩
      have HX1:=Lib.hid (And.intro hx hy)
      rw [← hx] at c1
      rw [← hy] at c2
      clear hx hy
      go_wp2_with fail
      go_quiet ((go_at_call 139;exact Calls.quiet_of_same (less_q _ _ _)))
      have HQ1:=Lib.hid (HRk.out.drewN nq)
      clear c1 c2
      generalize wr.drewN nq=wq at HQ1 ⊢
      rcases Bool.eq_false_or_eq_true (ltInt x1 y1) with hxy|hxy
      ·have HXY:=Lib.hid hxy
       rw [hxy]
       clear hxy
       go_wp2
       go_meet
       case rel=>exact ⟨k,rfl,by omega,by
        rw [← HEk.out]
        unfold scanSorted
        rw [if_neg (by
         have h1:=HXY.out
         rw [HX1.out.1,HX1.out.2] at h1
         simp [h1])],HQ1.out⟩
      ·have HXY:=Lib.hid hxy
       rw [hxy]
       clear hxy
       go_wp2
       go_roundw
       case rel=>exact ⟨k+1,by go_num,by omega,HQ1.out,by
        rw [← HEk.out]
        conv=>rhs;unfold scanSorted
        rw [if_pos (by
         have h1:=HXY.out
         rw [HX1.out.1,HX1.out.2] at h1
         simp [h1,hkb])]⟩
       case measure=>(simp [intOf] <;> omega)
     ·have hkbi:¬ (k:Int) < (b:Int):=by omega
      go_wp2_with fail
      go_quiet (fail)
      have HQ1:=Lib.hid (HRk.out.drewN nq)
      generalize wr.drewN nq=wq at HQ1 ⊢
      go_wp2
      go_meet
      case rel=>exact ⟨k,rfl,by omega,by
       rw [← HEk.out]
       unfold scanSorted
       rw [if_neg (by simp;omega)],HQ1.out⟩
   case rest =>
    obtain ⟨i2,rfl,hi3,hv,hR⟩:=hcut
    have HEQ:=Lib.hid (show partialInsertionSort ltInt d a b=if i2=b then (dk,true) else if b - a < 50 then (dk,false) else partialIns ltInt a b (5 - (c+1)) i2 (stepP dk a b i2) from by
     rw [← HE.out,← pins_eq dk hv]
     rw [show 5 - c=5 - (c+1)+1 by omega])
    have HRi:=Lib.hid hR
    clear hv hR HR HE
    by_cases hib:i2=b
    ·have hibi:(i2:Int)=(b:Int):=by omega
     go_wp2
     go_ret
     rw [HEQ.out,if_pos hib]
     exact ⟨rfl,HRi.out⟩
    ·have hibi:¬ (i2:Int)=(b:Int):=by omega
     by_cases h50:b - a < 50
     ·have h50i:(b:Int) - (a:Int) < 50:=by omega
      go_wp2
      go_ret
      rw [HEQ.out,if_neg hib,if_pos h50]
      exact ⟨rfl,HRi.out⟩
     ·have h50i:¬ (b:Int) - (a:Int) < 50:=by omega
      have HEQ:=Lib.hid (HEQ.out.trans (by rw [if_neg hib,if_neg h50]))
      have c1:=HRi.out.cell (j:=i2) (by omega)
      have c2:=HRi.out.cell (j:=i2 - 1) (by omega)
      have f1:=HRi.out.frozen (j:=i2) (by omega)
      have f2:=HRi.out.frozen (j:=i2 - 1) (by omega)
      obtain ⟨x2,hx⟩:∃ x,x=(dk)[i2]! := ⟨_,rfl⟩
      obtain ⟨y2,hy⟩:∃ x,x=(dk)[i2 - 1]! := ⟨_,rfl⟩
      have HX2:=Lib.hid (And.intro hx hy)
      rw [← hx] at c1
      rw [← hy] at c2
      have g2:(wc.setCell ⟨blk,off+(i2),none⟩ (.int .u32 y2)).drew.cell? ⟨blk,off+(i2 - 1),none⟩=some (.int .u32 y2):=twice HRi.out (by omega) (by omega) c2 (by omega)
      clear hx hy
      go_wp2_with fail
      go_region
      have HS2:=Lib.hid (show RW w0 blk off N d0 (swp (dk) (i2) (i2 - 1)) ((wc.setCell ⟨blk,off+(i2),none⟩ (.int .u32 y2)).setCell ⟨blk,off+(i2 - 1),none⟩ (.int .u32 x2)) from by
       rw [HX2.out.1,HX2.out.2]
       exact HRi.out.swp (by omega) (by omega))
      clear f1 f2 c1 c2 g2
      generalize (wc.setCell ⟨blk,off+(i2),none⟩ (.int .u32 y2)).setCell ⟨blk,off+(i2 - 1),none⟩ (.int .u32 x2)=ws at HS2 ⊢
      have HS2:=Lib.hid HS2.out.drew
      obtain ⟨d2,hd2⟩:∃ d2,d2=swp dk i2 (i2 - 1):=⟨_,rfl⟩
      have HD2:=Lib.hid hd2
      rw [← hd2] at HS2
      clear hd2 HRi
      go_upto_if 61 with fail
      go_cut [] from 13 to 132 (fun wx=>RW w0 blk off N d0 (if i2 - a ≥ 2 then shiftDown ltInt (i2 - 1) d2 else d2) wx)
      case first =>
       by_cases hia:2≤i2 - a
       ·have hiai:(2:Int)≤(i2:Int) - (a:Int):=by omega
        go_wp2_with fail
        go_loopw [9] (fun v wr=>∃ (k:Nat) (dl:Array Int),v = .int .i64 (k:Int)∧k < i2∧RW w0 blk off N d0 dl wr∧shiftDown ltInt k dl=shiftDown ltInt (i2 - 1) d2) (fun v _=>(intOf v).toNat)
        case atStart=>exact ⟨i2 - 1,d2,by go_num,by omega,HS2.out,rfl⟩
        case round =>
         obtain ⟨k,dl,rfl,hk,hR,hE⟩:=hrel
         have HRk:=Lib.hid hR
         have HEk:=Lib.hid hE
         clear hR hE
         by_cases hk1:1≤k
         ·have hk1i:(1:Int)≤(k:Int):=by omega
          have c1:=HRk.out.cell (j:=k) (by omega)
          have c2:=HRk.out.cell (j:=k - 1) (by omega)
          obtain ⟨x3,hx⟩:∃ x,x=(dl)[k]! := ⟨_,rfl⟩
          obtain ⟨y3,hy⟩:∃ x,x=(dl)[k - 1]! := ⟨_,rfl⟩
          have HX3:=Lib.hid (And.intro hx hy)
          rw [← hx] at c1
          rw [← hy] at c2
          clear hx hy
          go_wp2_with fail
          go_quiet ((go_at_call 139;exact Calls.quiet_of_same (less_q _ _ _)))
          have HQ3:=Lib.hid (HRk.out.drewN nq)
          clear c1 c2
          generalize wr.drewN nq=wq at HQ3 ⊢
          rcases Bool.eq_false_or_eq_true (ltInt x3 y3) with hxy|hxy
          ·have HXY:=Lib.hid hxy
           rw [hxy]
           clear hxy
           have c1:=HQ3.out.cell (j:=k) (by omega)
           have c2:=HQ3.out.cell (j:=k - 1) (by omega)
           have f1:=HQ3.out.frozen (j:=k) (by omega)
           have f2:=HQ3.out.frozen (j:=k - 1) (by omega)
           obtain ⟨x4,hx⟩:∃ x,x=(dl)[k]! := ⟨_,rfl⟩
           obtain ⟨y4,hy⟩:∃ x,x=(dl)[k - 1]! := ⟨_,rfl⟩
           have HX4:=Lib.hid (And.intro hx hy)
           rw [← hx] at c1
           rw [← hy] at c2
           have g2:(wq.setCell ⟨blk,off+(k),none⟩ (.int .u32 y4)).drew.cell? ⟨blk,off+(k - 1),none⟩=some (.int .u32 y4):=twice HQ3.out (by omega) (by omega) c2 (by omega)
           clear hx hy
           go_wp2_with fail
           go_region
           have HS4:=Lib.hid (show RW w0 blk off N d0 (swp (dl) (k) (k - 1)) ((wq.setCell ⟨blk,off+(k),none⟩ (.int .u32 y4)).setCell ⟨blk,off+(k - 1),none⟩ (.int .u32 x4)) from by
            rw [HX4.out.1,HX4.out.2]
            exact HQ3.out.swp (by omega) (by omega))
           clear f1 f2 c1 c2 g2
           generalize (wq.setCell ⟨blk,off+(k),none⟩ (.int .u32 y4)).setCell ⟨blk,off+(k - 1),none⟩ (.int .u32 x4)=wt at HS4 ⊢
           go_wp2
           go_roundw
           case rel=>exact ⟨k - 1,_,by go_num,by omega,HS4.out.drew,by
            rw [← HEk.out]
            obtain ⟨m,rfl⟩:∃ m,k=m+1:=⟨k - 1,by omega⟩
            conv=>rhs;unfold shiftDown
            rw [if_neg (by
             have h1:=HXY.out
             rw [HX3.out.1,HX3.out.2] at h1
             simp only [Nat.add_sub_cancel] at h1
             simp [h1])]
            rfl⟩
           case measure=>(simp [intOf] <;> omega)
          ·have HXY:=Lib.hid hxy
           rw [hxy]
           clear hxy
           go_wp2
           go_meet
           case rel =>
            rw [if_pos hia,← HEk.out]
            obtain ⟨m,rfl⟩:∃ m,k=m+1:=⟨k - 1,by omega⟩
            unfold shiftDown
            rw [if_pos (by
             have h1:=HXY.out
             rw [HX3.out.1,HX3.out.2] at h1
             simp only [Nat.add_sub_cancel] at h1
             simp [h1])]
            exact HQ3.out
         ·have hk1i:¬ (1:Int)≤(k:Int):=by omega
          go_wp2
          go_meet
          case rel =>
           rw [if_pos hia,← HEk.out]
           rw [show k=0 by omega]
           exact HRk.out
       ·have hiai:¬ (2:Int)≤(i2:Int) - (a:Int):=by omega
        go_wp2
        go_meet
        case rel =>
         rw [if_neg hia]
         exact HS2.out
      case rest =>
       obtain ⟨d3,hd3⟩:∃ d3,d3=if i2 - a ≥ 2 then shiftDown ltInt (i2 - 1) d2 else d2:=⟨_,rfl⟩
       rw [← hd3] at hcut
       have HD3:=Lib.hid hd3
       have HS3:=Lib.hid hcut
       clear hd3 hcut HS2
       have HST:=Lib.hid (show stepP dk a b i2=if b - i2 ≥ 2 then shiftUp ltInt b (i2+1) d3 else d3 from by
        unfold stepP
        rw [← HD2.out,← HD3.out])
       ·by_cases hia:2≤b - i2
        ·have hiai:(2:Int)≤(b:Int) - (i2:Int):=by omega
         go_wp2_with fail
         go_loopw [10] (fun v wr=>∃ (k:Nat) (dl:Array Int),v = .int .i64 (k:Int)∧1≤k∧k≤b∧RW w0 blk off N d0 dl wr∧shiftUp ltInt b k dl=shiftUp ltInt b (i2+1) d3) (fun v _=>b - (intOf v).toNat)
         case atStart=>exact ⟨i2+1,d3,by go_num,by omega,by omega,HS3.out,rfl⟩
         case round =>
          obtain ⟨k,dl,rfl,hk,hk2,hR,hE⟩:=hrel
          have HRk:=Lib.hid hR
          have HEk:=Lib.hid hE
          clear hR hE
          by_cases hk1:k < b
          ·have hk1i:(k:Int) < (b:Int):=by omega
           have c1:=HRk.out.cell (j:=k) (by omega)
           have c2:=HRk.out.cell (j:=k - 1) (by omega)
           obtain ⟨x3,hx⟩:∃ x,x=(dl)[k]! := ⟨_,rfl⟩
           obtain ⟨y3,hy⟩:∃ x,x=(dl)[k - 1]! := ⟨_,rfl⟩
           have HX3:=Lib.hid (And.intro hx hy)
           rw [← hx] at c1
           rw [← hy] at c2
           clear hx hy
           go_wp2_with fail
           go_quiet ((go_at_call 139;exact Calls.quiet_of_same (less_q _ _ _)))
           have HQ3:=Lib.hid (HRk.out.drewN nq)
           clear c1 c2
           generalize wr.drewN nq=wq at HQ3 ⊢
           rcases Bool.eq_false_or_eq_true (ltInt x3 y3) with hxy|hxy
           ·have HXY:=Lib.hid hxy
            rw [hxy]
            clear hxy
            have c1:=HQ3.out.cell (j:=k) (by omega)
            have c2:=HQ3.out.cell (j:=k - 1) (by omega)
            have f1:=HQ3.out.frozen (j:=k) (by omega)
            have f2:=HQ3.out.frozen (j:=k - 1) (by omega)
            obtain ⟨x4,hx⟩:∃ x,x=(dl)[k]! := ⟨_,rfl⟩
            obtain ⟨y4,hy⟩:∃ x,x=(dl)[k - 1]! := ⟨_,rfl⟩
            have HX4:=Lib.hid (And.intro hx hy)
            rw [← hx] at c1
            rw [← hy] at c2
            have g2:(wq.setCell ⟨blk,off+(k),none⟩ (.int .u32 y4)).drew.cell? ⟨blk,off+(k - 1),none⟩=some (.int .u32 y4):=twice HQ3.out (by omega) (by omega) c2 (by omega)
            clear hx hy
            go_wp2_with fail
            go_region
            have HS4:=Lib.hid (show RW w0 blk off N d0 (swp (dl) (k) (k - 1)) ((wq.setCell ⟨blk,off+(k),none⟩ (.int .u32 y4)).setCell ⟨blk,off+(k - 1),none⟩ (.int .u32 x4)) from by
             rw [HX4.out.1,HX4.out.2]
             exact HQ3.out.swp (by omega) (by omega))
            clear f1 f2 c1 c2 g2
            generalize (wq.setCell ⟨blk,off+(k),none⟩ (.int .u32 y4)).setCell ⟨blk,off+(k - 1),none⟩ (.int .u32 x4)=wt at HS4 ⊢
            go_wp2
            go_roundw
            case rel=>exact ⟨k+1,_,by go_num,by omega,by omega,HS4.out.drew,by
             rw [← HEk.out]
             conv=>rhs;unfold shiftUp
             rw [if_pos hk1,if_neg (by
              have h1:=HXY.out
              rw [HX3.out.1,HX3.out.2] at h1
              simp [h1])]⟩
            case measure=>(simp [intOf] <;> omega)
           ·have HXY:=Lib.hid hxy
            rw [hxy]
            clear hxy
            go_wp2
            go_roundw
            case rel=>exact ⟨i2,c+1,_,rfl,by go_num,by omega,by omega,by omega,HQ3.out,by
             rw [HEQ.out,HST.out,if_pos hia,← HEk.out]
             conv=>rhs;unfold shiftUp
             rw [if_pos hk1,if_pos (by
              have h1:=HXY.out
              rw [HX3.out.1,HX3.out.2] at h1
              simp [h1])]⟩
            case measure=>(simp [intOf] <;> omega)
          ·have hk1i:¬ (k:Int) < (b:Int):=by omega
           go_wp2
           go_roundw
           case rel=>exact ⟨i2,c+1,_,rfl,by go_num,by omega,by omega,by omega,HRk.out,by
            rw [HEQ.out,HST.out,if_pos hia,← HEk.out]
            conv=>rhs;unfold shiftUp
            rw [if_neg hk1]⟩
           case measure=>(simp [intOf] <;> omega)
        ·have hiai:¬ (2:Int)≤(b:Int) - (i2:Int):=by omega
         go_wp2
         go_roundw
         case rel=>exact ⟨i2,c+1,_,rfl,by go_num,by omega,by omega,by omega,HS3.out,by
          rw [HEQ.out,HST.out,if_neg hia]⟩
         case measure=>(simp [intOf] <;> omega)
  ·have hc5i:¬ (c:Int) < 5:=by omega
   have HE2:=Lib.hid (show partialInsertionSort ltInt d a b=(dk,false) from by
    rw [← HE.out,show 5 - c=0 by omega]
    rfl)
   go_wp2
   go_ret
   rw [HE2.out]
   exact ⟨rfl,HR.out⟩
end
end Go.Proofs.YtgjofinbdigmcaaGreat.Srt
end
section
namespace Go.Proofs.YtgjofinbdigmcaaGreat.Srt
open Go.Proofs.YtgjofinbdigmcaaGreat.Mem
open Go.RowKit Go.Sort
structure SW (w0:World) (blk off N:Nat) (d0 d:Array Int) (sp n:Nat) (w:World):Prop where
 row:RW w0 blk off N d0 d w
 blk:Blk w sp 3 #[.int .i64 (n:Int)]
 low:w0.heap.size≤sp
section
variable {w0 w w':World} {blk off N:Nat} {d0 d d':Array Int} {sp n:Nat}
theorem SW.drewN (h:SW w0 blk off N d0 d sp n w) (k:Nat):SW w0 blk off N d0 d sp n (w.drewN k):=⟨h.row.drewN k,h.blk,h.low⟩
theorem SW.set_ (h:SW w0 blk off N d0 d sp n w) (m:Nat):SW w0 blk off N d0 d sp m (w.setCell ⟨sp,0,none⟩ (.int .i64 (m:Int))):=⟨h.row.newer h.low _ _,h.blk.set_ 0 _,h.low⟩
theorem order2_in (d:Array Int) {a b s M:Nat} (ha:a < M) (hb:b < M):(order2 ltInt d a b s).1 < M∧(order2 ltInt d a b s).2.1 < M∧(order2 ltInt d a b s).2.2≤s+1:=by
 unfold order2
 split
 ·exact ⟨hb,ha,Nat.le_refl _⟩
 ·exact ⟨ha,hb,Nat.le_succ _⟩
theorem median_eq (d:Array Int) (a b c s:Nat):median ltInt d a b c s =
  ((order2 ltInt d (order2 ltInt d a b s).1 (order2 ltInt d (order2 ltInt d a b s).2.1 c (order2 ltInt d a b s).2.2).1 (order2 ltInt d (order2 ltInt d a b s).2.1 c (order2 ltInt d a b s).2.2).2.2).2.1,
   (order2 ltInt d (order2 ltInt d a b s).1 (order2 ltInt d (order2 ltInt d a b s).2.1 c (order2 ltInt d a b s).2.2).1 (order2 ltInt d (order2 ltInt d a b s).2.1 c (order2 ltInt d a b s).2.2).2.2).2.2):=rfl
theorem median_in (d:Array Int) {a b c s M:Nat} (ha:a < M) (hb:b < M) (hc:c < M):(median ltInt d a b c s).1 < M∧(median ltInt d a b c s).2≤s+3:=by
 have h1:=order2_in d (s:=s) ha hb
 have h2:=order2_in d (s:=(order2 ltInt d a b s).2.2) h1.2.1 hc
 have h3:=order2_in d (s:=(order2 ltInt d (order2 ltInt d a b s).2.1 c (order2 ltInt d a b s).2.2).2.2) h1.1 h2.1
 rw [median_eq]
 exact ⟨h3.2.1,Nat.le_trans h3.2.2 (by omega)⟩
theorem order2_any (h:SW w0 blk off N d0 d sp n w) (cap:Nat) {a b:Nat} (ha:a < N) (hb:b < N) (hn:n < 1000):Calls Tryz.prog 147 #[.slice (some ⟨blk,off,none⟩) N cap,.int .i64 a,.int .i64 b,.pointer (some ⟨sp,0,none⟩)] w fun e w' =>
  e = .returned (.tuple #[.int .i64 ((order2 ltInt d a b n).1:Nat),.int .i64 ((order2 ltInt d a b n).2.1:Nat)])∧SW w0 blk off N d0 d sp (order2 ltInt d a b n).2.2 w':=by
 have hN:=h.row.base.few
 have c1:=h.row.cell hb
 have c2:=h.row.cell ha
 unfold order2
 obtain ⟨x,hx⟩:∃ x,x=d[b]! := ⟨_,rfl⟩
 obtain ⟨y,hy⟩:∃ x,x=d[a]! := ⟨_,rfl⟩
 rw [← hx,← hy]
 rw [← hx] at c1
 rw [← hy] at c2
 have H:=Lib.hid h
 clear h hx hy
 rcases Bool.eq_false_or_eq_true (ltInt x y) with hxy|hxy
 ·rw [if_pos hxy]
  go_enter Tryz.func147,Tryz.ntmps147
  go_wp2_with fail
  go_quiet ((go_at_call 139;exact Calls.quiet_of_same (less_q _ _ _)))
  have HQ:=Lib.hid (H.out.drewN nq)
  have s0:(w.drewN nq).cell? ⟨sp,0,none⟩=some (.int .i64 (n:Int)):=HQ.out.blk.cell 0
  have s1:=HQ.out.blk.frozen 0
  clear c1 c2
  generalize w.drewN nq=wq at HQ s0 s1 ⊢
  rw [hxy]
  clear hxy
  go_wp2
  go_returns
  exact ⟨rfl,HQ.out.set_ (n+1)⟩
 ·rw [if_neg (by rw [hxy];simp)]
  go_enter Tryz.func147,Tryz.ntmps147
  go_wp2_with fail
  go_quiet ((go_at_call 139;exact Calls.quiet_of_same (less_q _ _ _)))
  have HQ:=Lib.hid (H.out.drewN nq)
  clear c1 c2
  generalize w.drewN nq=wq at HQ ⊢
  rw [hxy]
  clear hxy
  go_wp2
  go_returns
  exact ⟨rfl,HQ.out⟩
theorem median_any (h:SW w0 blk off N d0 d sp n w) (cap:Nat) {a b c:Nat} (ha:a < N) (hb:b < N) (hc:c < N) (hn:n < 900):Calls Tryz.prog 145 #[.slice (some ⟨blk,off,none⟩) N cap,.int .i64 a,.int .i64 b,.int .i64 c,.pointer (some ⟨sp,0,none⟩)] w fun e w' =>
  e = .returned (.int .i64 ((median ltInt d a b c n).1:Nat))∧SW w0 blk off N d0 d sp (median ltInt d a b c n).2 w':=by
 rw [median_eq]
 have h1:=order2_in d (s:=n) ha hb
 have HO:=Lib.hid (order2_any h cap ha hb (by omega))
 obtain ⟨r1,hr1⟩:∃ r,r=order2 ltInt d a b n:=⟨_,rfl⟩
 rw [← hr1] at h1 HO ⊢
 clear hr1 h
 have H1:=Lib.hid h1
 have h2:=order2_in d (s:=r1.2.2) h1.2.1 hc
 obtain ⟨r2,hr2⟩:∃ r,r=order2 ltInt d r1.2.1 c r1.2.2:=⟨_,rfl⟩
 rw [← hr2] at h2 ⊢
 have HR2:=Lib.hid hr2
 have H2:=Lib.hid h2
 have h3:=order2_in d (s:=r2.2.2) h1.1 h2.1
 obtain ⟨r3,hr3⟩:∃ r,r=order2 ltInt d r1.1 r2.1 r2.2.2:=⟨_,rfl⟩
 rw [← hr3] at h3 ⊢
 have HR3:=Lib.hid hr3
 have H3:=Lib.hid h3
 clear hr2 hr3 h1 h2 h3
 go_enter Tryz.func145,Tryz.ntmps145
 go_wp2_with fail
 refine HO.out.mono ?_
 rintro e w1 ⟨rfl,hS⟩
 have HO:=Lib.hid (order2_any hS cap H1.out.2.1 hc (by have:=H1.out;omega))
 rw [← HR2.out] at HO
 clear hS
 go_wp2_with fail
 refine HO.out.mono ?_
 rintro e w2 ⟨rfl,hS⟩
 have HO:=Lib.hid (order2_any hS cap H1.out.1 H2.out.1 (by have:=H1.out;have:=H2.out;omega))
 rw [← HR3.out] at HO
 clear hS
 go_wp2_with fail
 refine HO.out.mono ?_
 rintro e w3 ⟨rfl,hS⟩
 have HS:=Lib.hid hS
 clear hS
 go_wp2_with fail
 go_ret
 exact ⟨rfl,HS.out⟩
theorem medianAdj_any (h:SW w0 blk off N d0 d sp n w) (cap:Nat) {a:Nat} (ha:1≤a) (hb:a+1 < N) (hn:n < 900):Calls Tryz.prog 144 #[.slice (some ⟨blk,off,none⟩) N cap,.int .i64 a,.pointer (some ⟨sp,0,none⟩)] w fun e w' =>
  e = .returned (.int .i64 ((medianAdjacent ltInt d a n).1:Nat))∧SW w0 blk off N d0 d sp (medianAdjacent ltInt d a n).2 w':=by
 have hN:=h.row.base.few
 have HM:=Lib.hid (median_any h cap (a:=a - 1) (b:=a) (c:=a+1) (by omega) (by omega) hb hn)
 have e1:((a - 1:Nat):Int)=(a:Int) - 1:=by omega
 have e2:((a+1:Nat):Int)=(a:Int)+1:=by omega
 rw [e1,e2] at HM
 clear h e1 e2
 unfold medianAdjacent
 obtain ⟨r,hr⟩:∃ r,r=median ltInt d (a - 1) a (a+1) n:=⟨_,rfl⟩
 rw [← hr] at HM ⊢
 clear hr
 go_enter Tryz.func144,Tryz.ntmps144
 go_wp2_with fail
 refine HM.out.mono ?_
 rintro e w1 ⟨rfl,hS⟩
 have HS:=Lib.hid hS
 clear hS
 go_wp2_with fail
 go_ret
 exact ⟨rfl,HS.out⟩
def hint3:Hint→Int
 | .increasing=>1
 | .decreasing=>2
 | .unknown=>0
def pvR (d:Array Int) (a l:Nat):Nat × Nat :=
 if 8≤l then
  if 50≤l then median ltInt d (medianAdjacent ltInt d (a+l / 4 * 1) 0).1 (medianAdjacent ltInt d (a+l / 4 * 2) (medianAdjacent ltInt d (a+l / 4 * 1) 0).2).1
   (medianAdjacent ltInt d (a+l / 4 * 3) (medianAdjacent ltInt d (a+l / 4 * 2) (medianAdjacent ltInt d (a+l / 4 * 1) 0).2).2).1
   (medianAdjacent ltInt d (a+l / 4 * 3) (medianAdjacent ltInt d (a+l / 4 * 2) (medianAdjacent ltInt d (a+l / 4 * 1) 0).2).2).2
  else median ltInt d (a+l / 4 * 1) (a+l / 4 * 2) (a+l / 4 * 3) 0
 else (a+l / 4 * 2,0)
theorem pivot_eq (d:Array Int) (a l:Nat):choosePivot ltInt d a (a+l)=((pvR d a l).1,if (pvR d a l).2=0 then .increasing else if (pvR d a l).2=12 then .decreasing else .unknown):=by
 unfold choosePivot pvR
 simp only [Nat.add_sub_cancel_left,ge_iff_le]
theorem adj_in (d:Array Int) {a s M:Nat} (ha:a+1 < M):(medianAdjacent ltInt d a s).1 < M∧(medianAdjacent ltInt d a s).2≤s+3:=by
 unfold medianAdjacent
 exact median_in d (by omega) (by omega) ha
theorem pivot_any (h:RW w0 blk off N d0 d w) (cap:Nat) {a b l:Nat} (hl:b=a+l) (h0:0 < l) (hb:b≤N):Calls Tryz.prog 136 #[.slice (some ⟨blk,off,none⟩) N cap,.int .i64 a,.int .i64 b] w fun e w' =>
  e = .returned (.tuple #[.int .i64 ((choosePivot ltInt d a b).1:Nat),.int .i64 (hint3 (choosePivot ltInt d a b).2)])∧RW w0 blk off N d0 d w':=by
 have hN:=h.base.few
 have HP:=Lib.hid (pivot_eq d a l)
 rw [← hl] at HP
 have hsub:(b:Int) - (a:Int)=(l:Int):=by omega
 have hq:(l:Int).tdiv 4=((l / 4:Nat):Int):=by rw [Int.tdiv_eq_ediv_of_nonneg (by omega)];omega
 obtain ⟨q,hqq⟩:∃ q,q=l / 4:=⟨_,rfl⟩
 rw [← hqq] at hq
 have hlq:4 * q≤l:=by omega
 have haN:a+l≤N:=by omega
 have HQ:=Lib.hid hqq
 have HS:=Lib.hid (show SW w0 blk off N d0 d w.heap.size 0 (w.alloc (.cells #[.int .i64 0] 3)) from ⟨h.alloc _,Blk.new w _ _,h.le⟩)
 obtain ⟨sp,hsp⟩:∃ sp,sp=w.heap.size:=⟨_,rfl⟩
 rw [← hsp] at HS
 have HSP:=Lib.hid hsp
 clear hl hqq hsp h
 go_enter Tryz.func136,Tryz.ntmps136
 go_upto_if 32 with fail
 rw [← HSP.out]
 generalize w.alloc (.cells #[.int .i64 0] 3)=w1 at HS ⊢
 clear HSP
 go_cut [11] from 13 to 56 (fun v wx=>v = .int .i64 ((pvR d a l).1:Nat)∧SW w0 blk off N d0 d sp (pvR d a l).2 wx∧(pvR d a l).2≤12)
 case first =>
  have e1:a+l / 4 * 1=a+q:=by rw [← HQ.out];omega
  have e2:a+l / 4 * 2=a+q * 2:=by rw [← HQ.out]
  have e3:a+l / 4 * 3=a+q * 3:=by rw [← HQ.out]
  have i1:((a+q:Nat):Int)=(a:Int)+(q:Int):=by omega
  have i2:((a+q * 2:Nat):Int)=(a:Int)+(q:Int) * 2:=by omega
  have i3:((a+q * 3:Nat):Int)=(a:Int)+(q:Int) * 3:=by omega
  have ev:pvR d a l=pvR d a l:=rfl
  conv at ev=>rhs;unfold pvR
  rw [e1,e2,e3] at ev
  by_cases h8:8≤l
  ·have h8i:(8:Int)≤(l:Int):=by omega
   rw [if_pos h8] at ev
   have hq2:2≤q:=by have:=HQ.out;omega
   have hq3:a+q * 3+1 < N:=by have:=HQ.out;omega
   by_cases h50:50≤l
   ·have h50i:(50:Int)≤(l:Int):=by omega
    rw [if_pos h50] at ev
    have a1:=adj_in d (a:=a+q) (s:=0) (M:=N) (by omega)
    have HM:=Lib.hid (medianAdj_any HS.out cap (a:=a+q) (by omega) (by omega) (by omega))
    obtain ⟨r1,hr1⟩:∃ r,r=medianAdjacent ltInt d (a+q) 0:=⟨_,rfl⟩
    rw [← hr1] at a1 HM ev
    have a2:=adj_in d (a:=a+q * 2) (s:=r1.2) (M:=N) (by omega)
    obtain ⟨r2,hr2⟩:∃ r,r=medianAdjacent ltInt d (a+q * 2) r1.2:=⟨_,rfl⟩
    rw [← hr2] at a2 ev
    have HR2:=Lib.hid hr2
    have a3:=adj_in d (a:=a+q * 3) (s:=r2.2) (M:=N) (by omega)
    obtain ⟨r3,hr3⟩:∃ r,r=medianAdjacent ltInt d (a+q * 3) r2.2:=⟨_,rfl⟩
    rw [← hr3] at a3 ev
    have HR3:=Lib.hid hr3
    have a4:=median_in d (s:=r3.2) a1.1 a2.1 a3.1
    obtain ⟨r4,hr4⟩:∃ r,r=median ltInt d r1.1 r2.1 r3.1 r3.2:=⟨_,rfl⟩
    rw [← hr4] at a4 ev
    have HV:=Lib.hid ev
    have HR4:=Lib.hid hr4
    have A:=Lib.hid (And.intro a1 (And.intro a2 (And.intro a3 a4)))
    have HI:=Lib.hid (And.intro i1 (And.intro i2 i3))
    rw [i1] at HM
    clear hr1 hr2 hr3 hr4 a1 a2 a3 a4 e1 e2 e3 i1 i2 i3 ev
    go_wp2_with fail
    refine HM.out.mono ?_
    rintro e w2 ⟨rfl,hS⟩
    have HM:=Lib.hid (medianAdj_any hS cap (a:=a+q * 2) (by omega) (by omega) (by have:=A.out;omega))
    rw [← HR2.out,HI.out.2.1] at HM
    clear hS
    go_wp2_with fail
    refine HM.out.mono ?_
    rintro e w3 ⟨rfl,hS⟩
    have HM:=Lib.hid (medianAdj_any hS cap (a:=a+q * 3) (by omega) (by omega) (by have:=A.out;omega))
    rw [← HR3.out,HI.out.2.2] at HM
    clear hS
    go_wp2_with fail
    refine HM.out.mono ?_
    rintro e w4 ⟨rfl,hS⟩
    have HM:=Lib.hid (median_any hS cap A.out.1.1 A.out.2.1.1 A.out.2.2.1.1 (by have:=A.out;omega))
    rw [← HR4.out] at HM
    clear hS
    go_wp2_with fail
    refine HM.out.mono ?_
    rintro e w5 ⟨rfl,hS⟩
    have HS:=Lib.hid hS
    clear hS
    go_wp2
    go_meet
    case rel=>rw [HV.out];exact ⟨rfl,HS.out,by have:=A.out;omega⟩
   ·have h50i:¬ (50:Int)≤(l:Int):=by omega
    rw [if_neg h50] at ev
    have a4:=median_in d (s:=0) (M:=N) (show a+q < N by omega) (show a+q * 2 < N by omega) (show a+q * 3 < N by omega)
    have HM:=Lib.hid (median_any HS.out cap (show a+q < N by omega) (show a+q * 2 < N by omega) (show a+q * 3 < N by omega) (by omega))
    obtain ⟨r4,hr4⟩:∃ r,r=median ltInt d (a+q) (a+q * 2) (a+q * 3) 0:=⟨_,rfl⟩
    rw [← hr4] at a4 HM ev
    have HV:=Lib.hid ev
    rw [i1,i2,i3] at HM
    have A:=Lib.hid a4
    clear hr4 a4 e1 e2 e3 i1 i2 i3 ev
    go_wp2_with fail
    refine HM.out.mono ?_
    rintro e w5 ⟨rfl,hS⟩
    have HS:=Lib.hid hS
    clear hS
    go_wp2
    go_meet
    case rel=>rw [HV.out];exact ⟨rfl,HS.out,by have:=A.out;omega⟩
  ·have h8i:¬ (8:Int)≤(l:Int):=by omega
   rw [if_neg h8] at ev
   have HV:=Lib.hid ev
   clear e1 e2 e3 ev
   go_wp2
   go_meet
   case rel=>rw [HV.out];exact ⟨by rw [i2],HS.out,by simp⟩
 case rest =>
  obtain ⟨rfl,hS,hle⟩:=hcut
  obtain ⟨r,hr⟩:∃ r,r=pvR d a l:=⟨_,rfl⟩
  rw [← hr] at HP hS hle ⊢
  obtain ⟨j,n⟩:=r
  have HS:=Lib.hid hS
  have s0:wc.cell? ⟨sp,0,none⟩=some (.int .i64 (n:Int)):=hS.blk.cell 0
  clear hr hS HQ
  by_cases h0:n=0
  ·have h0i:(n:Int)=0:=by omega
   have HP2:=Lib.hid (HP.out.trans (show _=(j,Hint.increasing) from by simp only [h0];rfl))
   clear h0
   go_wp2
   go_returns
   exact ⟨by rw [HP2.out];rfl,HS.out.row⟩
  ·have h0i:¬ (n:Int)=0:=by omega
   by_cases h12:n=12
   ·have h12i:(n:Int)=12:=by omega
    have HP2:=Lib.hid (HP.out.trans (show _=(j,Hint.decreasing) from by simp only [h12];rfl))
    clear h0 h12
    go_wp2
    go_returns
    exact ⟨by rw [HP2.out];rfl,HS.out.row⟩
   ·have h12i:¬ (n:Int)=12:=by omega
    have HP2:=Lib.hid (HP.out.trans (show _=(j,Hint.unknown) from by simp only [h0,h12];rfl))
    clear h0 h12
    go_wp2
    go_returns
    exact ⟨by rw [HP2.out];rfl,HS.out.row⟩
end
end Go.Proofs.YtgjofinbdigmcaaGreat.Srt
end
section
namespace Go.Proofs
open Go.Shelf
def Tryz.xorNext_ren:Go.Shelf.Ren:=⟨fun|48=>130|n=>n,fun|76=>191|55=>26|0=>0|66=>179|39=>120|n=>n,fun|n=>n⟩
theorem Tryz.xorNext:Go.Proofs.SlLaysF0.n48 Tryz.prog Tryz.xorNext_ren:={
 mixed:=by kernel_rfl
 f48:=Tryz.func130.trans (congrArg some (by kernel_rfl))
 t0:=Tryz.underlying0
 a0:=Tryz.isAgg0
 z0:=Tryz.sizeOf0
 v0:=Tryz.zeroValue0
 t39:=Tryz.underlying120
 a39:=Tryz.isAgg120
 z39:=Tryz.sizeOf120
 v39:=Tryz.zeroValue120
 t55:=Tryz.underlying26
 a55:=Tryz.isAgg26
 z55:=Tryz.sizeOf26
 v55:=Tryz.zeroValue26
 t66:=Tryz.underlying179
 a66:=Tryz.isAgg179
 z66:=Tryz.sizeOf179
 v66:=Tryz.zeroValue179
 t76:=Tryz.underlying191
 a76:=Tryz.isAgg191
 z76:=Tryz.sizeOf191
 v76:=Tryz.zeroValue191 }
def Tryz.nextPow_ren:Go.Shelf.Ren:=⟨fun|47=>129|15=>104|28=>121|29=>122|n=>n,fun|3=>3|39=>120|53=>22|55=>26|4=>4|5=>5|9=>9|n=>n,fun|n=>n⟩
theorem Tryz.nextPow:Go.Proofs.SlLaysF0.n47 Tryz.prog Tryz.nextPow_ren:={
 mixed:=by kernel_rfl
 f15:=Tryz.func104.trans (congrArg some (by kernel_rfl))
 f28:=Tryz.func121.trans (congrArg some (by kernel_rfl))
 f29:=Tryz.func122.trans (congrArg some (by kernel_rfl))
 f47:=Tryz.func129.trans (congrArg some (by kernel_rfl))
 t3:=Tryz.underlying3
 a3:=Tryz.isAgg3
 z3:=Tryz.sizeOf3
 v3:=Tryz.zeroValue3
 t4:=Tryz.underlying4
 a4:=Tryz.isAgg4
 z4:=Tryz.sizeOf4
 v4:=Tryz.zeroValue4
 t5:=Tryz.underlying5
 a5:=Tryz.isAgg5
 z5:=Tryz.sizeOf5
 v5:=Tryz.zeroValue5
 t9:=Tryz.underlying9
 a9:=Tryz.isAgg9
 z9:=Tryz.sizeOf9
 v9:=Tryz.zeroValue9
 t39:=Tryz.underlying120
 a39:=Tryz.isAgg120
 z39:=Tryz.sizeOf120
 v39:=Tryz.zeroValue120
 t53:=Tryz.underlying22
 a53:=Tryz.isAgg22
 z53:=Tryz.sizeOf22
 v53:=Tryz.zeroValue22
 t55:=Tryz.underlying26
 a55:=Tryz.isAgg26
 z55:=Tryz.sizeOf26
 v55:=Tryz.zeroValue26 }
end Go.Proofs
end

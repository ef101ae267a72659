/- A row of uint32 that is sorted in place: what it holds in each world of the sort, what is read of it, what an exchange makes. cmp.Less at uint32; the insertion sort of a row. A heap in a row: an element sinks; the heap sort. -/
import Derived.Test.YtgjofinbdigmcaaGreatG01
import Derived.Test.YtgjofinbdigmcaaGreatProg
import Derived.Sort.Walk13a
import Derived.Sort.AssemblyPlain
import Derived.WalkKit
import Derived.ProofKit
import Derived.BigQuiet
import Derived.Lib.Hide
import Derived.Below
import Derived.Outline
import Derived.WalkSpells
import Derived.WalkLawsBesides
import Derived.LoopTactic
import Derived.Test.YtgjofinbdigmcaaGreatG03
import Derived.Deep.CutRange
set_option linter.unusedSimpArgs false
set_option linter.unusedVariables false
set_option maxHeartbeats 1000000
set_option maxRecDepth 100000
section
namespace Go.Proofs.YtgjofinbdigmcaaGreat.Srt
open Go.Proofs.YtgjofinbdigmcaaGreat.Mem
open Go.RowKit Go.Sort
abbrev enc (x:Int):Value := .int .u32 x
structure Base (w0:World) (blk off N:Nat) (d0:Array Int):Prop where
 holds:Holds enc w0 blk off d0
 size:d0.size=N
 lt:blk < w0.heap.size
 few:N < 4611686018427387904
structure RW (w0:World) (blk off N:Nat) (d0 d:Array Int) (w:World):Prop where
 base:Base w0 blk off N d0
 at_:At enc w0 blk off d w
 size:d.size=N
theorem set_grow (w:World) (os:Array Obj) {blk:Nat} (k:Nat) (v:Value) (h:blk < w.heap.size):(grow w os).setCell ⟨blk,k,none⟩ v=grow (w.setCell ⟨blk,k,none⟩ v) os:=by
 rw [setCell_eq,mapBlock_grow _ _ _ _ h,← setCell_eq]
section
variable {w0 w w':World} {blk off N:Nat} {d0 d d':Array Int}
theorem RW.start (h:Base w0 blk off N d0):RW w0 blk off N d0 d0 w0:=⟨h,At.refl h.holds,h.size⟩
theorem RW.holds (h:RW w0 blk off N d0 d w):Holds enc w blk off d∧blk < w.heap.size:=h.at_.holds h.base.holds (h.size.trans h.base.size.symm) h.base.lt
theorem RW.cell (h:RW w0 blk off N d0 d w) {j:Nat} (hj:j < N):w.cell? ⟨blk,off+j,none⟩=some (.int .u32 d[j]!):=(h.holds.1 j (by rw [h.size];exact hj)).1
theorem RW.frozen (h:RW w0 blk off N d0 d w) {j:Nat} (hj:j < N):w.frozen? ⟨blk,off+j,none⟩=false:=(h.holds.1 j (by rw [h.size];exact hj)).2
theorem RW.drewN (h:RW w0 blk off N d0 d w) (n:Nat):RW w0 blk off N d0 d (w.drewN n):=⟨h.base,h.at_.ahead n,h.size⟩
theorem RW.drew (h:RW w0 blk off N d0 d w):RW w0 blk off N d0 d w.drew:=⟨h.base,h.at_.ahead 1,h.size⟩
theorem RW.alloc (h:RW w0 blk off N d0 d w) (o:Obj):RW w0 blk off N d0 d (w.alloc o):=by
 obtain ⟨n,os,rfl⟩:=h.at_
 exact ⟨h.base,⟨n,os ++ #[o],by rw [alloc_eq_grow,grow_grow]⟩,h.size⟩
theorem RW.newer (h:RW w0 blk off N d0 d w) {g:Nat} (hg:w0.heap.size≤g) (i:Nat) (u:Value):RW w0 blk off N d0 d (w.setCell ⟨g,i,none⟩ u):=by
 obtain ⟨n,os,rfl⟩:=h.at_
 refine ⟨h.base,⟨n,os.modify (g - w0.heap.size) (onCells (·.setIfInBounds i u)),?_⟩,h.size⟩
 rw [setCell_eq,mapBlock_grow_new _ _ _ _ (by simpa using hg)]
 simp
theorem RW.swp (h:RW w0 blk off N d0 d w) {i j:Nat} (hi:i < N) (hj:j < N):RW w0 blk off N d0 (swp d i j) ((w.setCell ⟨blk,off+i,none⟩ (.int .u32 d[j]!)).setCell ⟨blk,off+j,none⟩ (.int .u32 d[i]!)):=by
 obtain ⟨n,os,rfl⟩:=h.at_
 have hs:=h.size
 refine ⟨h.base,⟨n,os,?_⟩,by simp [Sort.swp,hs]⟩
 have h1:=h.base.lt
 rw [set_grow _ _ _ _ (by simpa using h1),set_grow _ _ _ _ (by simpa [World.setCell] using h1)]
 congr 1
 exact putRow_swp enc (Go.Sort.ahead w0 n) blk off d i j (by omega) (by omega)
theorem RW.le (h:RW w0 blk off N d0 d w):w0.heap.size≤w.heap.size:=by
 obtain ⟨n,os,rfl⟩:=h.at_
 simp
end
end Go.Proofs.YtgjofinbdigmcaaGreat.Srt
end
section
namespace Go.Proofs.YtgjofinbdigmcaaGreat.Srt
open Go.Proofs.YtgjofinbdigmcaaGreat.Mem
open Go.RowKit Go.Sort
theorem nan_any (x:Int) (w:World):Calls Tryz.prog 146 #[.int .u32 x] w fun e w'=>e = .returned (.bool false)∧w=w':=by
 go_enter Tryz.func146,Tryz.ntmps146
 go_wp2
 go_ret
 exact ⟨rfl,rfl⟩
theorem less_any (x y:Int) (w:World):Calls Tryz.prog 139 #[.int .u32 x,.int .u32 y] w fun e w'=>e = .returned (.bool (ltInt x y))∧w=w':=by
 have hn:=Lib.hid nan_any
 go_enter Tryz.func139,Tryz.ntmps139
 go_wp2_with (first|(go_at_call 146;refine (hn.out _ _).mono ?_;rintro e w1 ⟨rfl,rfl⟩))
 go_ret
 exact ⟨rfl,rfl⟩
theorem less_q (x y:Int) (w:World):Calls Tryz.prog 139 #[.int .u32 x,.int .u32 y] w fun e w'=>e = .returned (.bool (ltInt x y))∧w'=w:=(less_any x y w).mono fun e w' h=>⟨h.1,h.2.symm⟩
section
variable {w0 w w':World} {blk off N:Nat} {d0 d d':Array Int}
theorem ins_any (h:RW w0 blk off N d0 d w) (cap:Nat) {a b:Nat} (hab:a≤b) (hb:b≤N):Calls Tryz.prog 133 #[.slice (some ⟨blk,off,none⟩) N cap,.int .i64 a,.int .i64 b] w fun e w'=>e = .returned (.tuple #[])∧RW w0 blk off N d0 (insertionSort ltInt d a b) w':=by
 have hl:=Lib.hid less_any
 have hN:=h.base.few
 have H:=Lib.hid h
 clear h
 go_enter Tryz.func133,Tryz.ntmps133
 go_wp2
 go_loopw [6] (fun v wr=>∃ (i:Nat) (dk:Array Int),v = .int .i64 (i:Int)∧a < i∧i≤b+1∧RW w0 blk off N d0 dk wr∧insOuter ltInt a b i dk=insertionSort ltInt d a b) (fun v _=>b+1 - (intOf v).toNat)
 case atStart=>exact ⟨a+1,d,by go_num,by omega,by omega,H.out,rfl⟩
 case round =>
  obtain ⟨i,dk,rfl,hai,hib,hR,hE⟩:=hrel
  have HR:=Lib.hid hR
  have HE:=Lib.hid hE
  clear hR hE
  by_cases hlt:i < b
  ·have hlti:(i:Int) < (b:Int):=by omega
   go_wp2
   go_loopw [7] (fun v wr=>∃ (j:Nat) (dj:Array Int),v = .int .i64 (j:Int)∧a≤j∧j≤i∧RW w0 blk off N d0 dj wr∧insInner ltInt a j dj=insInner ltInt a i dk) (fun v _=>(intOf v).toNat)
   case atStart=>exact ⟨i,dk,rfl,by omega,by omega,HR.out,rfl⟩
   case round =>
    obtain ⟨j,dj,rfl,haj,hji,hR,hE⟩:=hrel
    have HRJ:=Lib.hid hR
    have HEJ:=Lib.hid hE
    clear hE
    by_cases hja:a < j
    ·have hjai:(a:Int) < (j:Int):=by omega
     have c1:=hR.cell (j:=j) (by omega)
     have c2:=hR.cell (j:=j - 1) (by omega)
     obtain ⟨x,hx⟩:∃ x,x=dj[j]! := ⟨_,rfl⟩
     obtain ⟨y,hy⟩:∃ x,x=dj[j - 1]! := ⟨_,rfl⟩
     rw [← hx] at c1
     rw [← hy] at c2
     have HX:=Lib.hid (And.intro hx hy)
     clear hR hx hy
     go_wp2_with fail
     go_quiet ((go_at_call 139;exact Calls.quiet_of_same (less_q _ _ _)))
     have HRQ:=Lib.hid (HRJ.out.drewN nq)
     have f1:=HRQ.out.frozen (j:=j) (by omega)
     have f2:=HRQ.out.frozen (j:=j - 1) (by omega)
     have q1:(wr.drewN nq).cell? ⟨blk,off+j,none⟩=some (.int .u32 x):=c1
     have q2:(wr.drewN nq).cell? ⟨blk,off+(j - 1),none⟩=some (.int .u32 y):=c2
     clear c1 c2
     generalize wr.drewN nq=wq at HRQ f1 f2 q1 q2 ⊢
     rcases Bool.eq_false_or_eq_true (ltInt x y) with hxy|hxy
     ·have HXY:=Lib.hid hxy
      rw [hxy]
      clear hxy
      go_wp2_with fail
      go_region
      have HS:=Lib.hid (show RW w0 blk off N d0 (swp dj j (j - 1)) ((wq.setCell ⟨blk,off+j,none⟩ (.int .u32 y)).setCell ⟨blk,off+(j - 1),none⟩ (.int .u32 x)) from by
       rw [HX.out.1,HX.out.2]
       exact HRQ.out.swp (by omega) (by omega))
      clear f1 f2 q1 q2
      generalize (wq.setCell ⟨blk,off+j,none⟩ (.int .u32 y)).setCell ⟨blk,off+(j - 1),none⟩ (.int .u32 x)=ws at HS ⊢
      go_wp2
      go_roundw
      case rel=>exact ⟨j - 1,swp dj j (j - 1),by go_num,by omega,by omega,HS.out.drew,by
       rw [← HEJ.out]
       obtain ⟨k,rfl⟩:∃ k,j=k+1:=⟨j - 1,by omega⟩
       have e1:(decide (k+1 > a) && ltInt dj[k+1]! dj[k]!)=true:=by
        have h1:=HX.out
        have h2:=HXY.out
        rw [h1.1,h1.2] at h2
        simp only [Nat.add_sub_cancel] at h2
        rw [h2];simp;omega
       simp only [Nat.add_sub_cancel]
       conv=>rhs;unfold insInner
       rw [if_pos e1]⟩
      case measure=>simp [intOf];omega
     ·have HXY:=Lib.hid hxy
      rw [hxy]
      clear hxy f1 f2 q1 q2
      have HO:=Lib.hid (show insOuter ltInt a b (i+1) dj=insertionSort ltInt d a b from by
       have e1:insInner ltInt a j dj=dj:=by
        obtain ⟨k,rfl⟩:∃ k,j=k+1:=⟨j - 1,by omega⟩
        have h1:=HX.out
        have h2:=HXY.out
        rw [h1.1,h1.2] at h2
        simp only [Nat.add_sub_cancel] at h2
        unfold insInner
        rw [if_neg (by rw [h2];simp)]
       rw [← HE.out]
       conv=>rhs;unfold insOuter
       rw [if_pos hlt,← HEJ.out,e1])
      go_wp2
      go_roundw
      case rel=>exact ⟨i+1,dj,by go_num,by omega,by omega,HRQ.out,HO.out⟩
      case measure=>simp [intOf];omega
    ·have hjai:¬ (a:Int) < (j:Int):=by omega
     have HO:=Lib.hid (show insOuter ltInt a b (i+1) dj=insertionSort ltInt d a b from by
      have e1:insInner ltInt a j dj=dj:=by
       cases j with
       | zero=>rfl
       | succ k =>
        unfold insInner
        rw [if_neg (by simp;omega)]
      rw [← HE.out]
      conv=>rhs;unfold insOuter
      rw [if_pos hlt,← HEJ.out,e1])
     clear hR
     go_wp2_with fail
     go_quiet (fail)
     have HRQ:=Lib.hid (HRJ.out.drewN nq)
     generalize wr.drewN nq=wq at HRQ ⊢
     go_wp2
     go_roundw
     case rel=>exact ⟨i+1,dj,by go_num,by omega,by omega,HRQ.out,HO.out⟩
     case measure=>simp [intOf];omega
  ·have hlti:¬ (i:Int) < (b:Int):=by omega
   go_wp2
   go_end0
   refine ⟨rfl,?_⟩
   rw [← HE.out]
   unfold insOuter
   rw [if_neg hlt]
   exact HR.out
end
end Go.Proofs.YtgjofinbdigmcaaGreat.Srt
end
section
namespace Go.Proofs.YtgjofinbdigmcaaGreat.Srt
open Go.Proofs.YtgjofinbdigmcaaGreat.Mem
open Go.RowKit Go.Sort
def kid (d:Array Int) (hi F r:Nat):Bool:=decide (2 * r+1+1 < hi) && ltInt d[F+(2 * r+1)]! d[F+(2 * r+1)+1]!
def kidAt (d:Array Int) (hi F r:Nat):Nat:=if kid d hi F r then 2 * r+1+1 else 2 * r+1
theorem kid_lt {d:Array Int} {hi F r:Nat} (h:2 * r+1 < hi):kidAt d hi F r < hi∧r < kidAt d hi F r:=by
 unfold kidAt
 split
 ·next h1 =>
  unfold kid at h1
  simp at h1
  omega
 ·omega
theorem sift_end {d:Array Int} {hi F r:Nat} (h:¬ 2 * r+1 < hi):siftDown ltInt hi F r d=d:=by
 rw [siftDown,dif_pos (by omega)]
theorem sift_stop {d:Array Int} {hi F r:Nat} (h:2 * r+1 < hi) (h2:ltInt d[F+r]! d[F+kidAt d hi F r]! = false):siftDown ltInt hi F r d=d:=by
 rw [siftDown,dif_neg (by omega)]
 unfold kidAt kid at h2
 split
 ·next h3 =>
  rw [if_pos h3] at h2
  rw [h2];rfl
 ·next h3 =>
  rw [if_neg h3] at h2
  rw [h2];rfl
theorem sift_go {d:Array Int} {hi F r:Nat} (h:2 * r+1 < hi) (h2:ltInt d[F+r]! d[F+kidAt d hi F r]! = true):siftDown ltInt hi F r d=siftDown ltInt hi F (kidAt d hi F r) (swp d (F+r) (F+kidAt d hi F r)):=by
 conv=>lhs;rw [siftDown,dif_neg (by omega)]
 unfold kidAt kid at h2 ⊢
 split
 ·next h3 =>
  rw [if_pos h3] at h2
  rw [h2]
  have h4:2 * r+2 < hi:=by simp at h3;omega
  simp [h4]
 ·next h3 =>
  rw [if_neg h3] at h2
  rw [h2];rfl
section
variable {w0 w w':World} {blk off N:Nat} {d0 d d':Array Int}
theorem twice (h:RW w0 blk off N d0 d w) {i j:Nat} (hi:i < N) (hj:j < N) {y:Int} (hc:w.cell? ⟨blk,off+j,none⟩=some (.int .u32 y)) (hN:0≤N):(w.setCell ⟨blk,off+i,none⟩ (.int .u32 y)).drew.cell? ⟨blk,off+j,none⟩=some (.int .u32 y):=by
 show (w.setCell ⟨blk,off+i,none⟩ (.int .u32 y)).cell? ⟨blk,off+j,none⟩=some (.int .u32 y)
 by_cases e:i=j
 ·subst e
  exact World.cell?_setCell_same' _ _ _ (by rw [hc];rfl)
 ·refine Eq.trans ?_ hc
  apply World.cell?_setCell_other
  simp [e]
theorem sift_any (h:RW w0 blk off N d0 d w) (cap:Nat) {lo hi F:Nat} (hlo:lo≤hi) (hb:F+hi≤N):Calls Tryz.prog 143 #[.slice (some ⟨blk,off,none⟩) N cap,.int .i64 lo,.int .i64 hi,.int .i64 F] w fun e w'=>e = .returned (.tuple #[])∧RW w0 blk off N d0 (siftDown ltInt hi F lo d) w':=by
 have hN:=h.base.few
 have H:=Lib.hid h
 clear h
 go_enter Tryz.func143,Tryz.ntmps143
 go_wp2
 go_loopw [8] (fun v wr=>∃ (r:Nat) (dk:Array Int),v = .int .i64 (r:Int)∧r≤hi∧RW w0 blk off N d0 dk wr∧siftDown ltInt hi F r dk=siftDown ltInt hi F lo d) (fun v _=>hi - (intOf v).toNat)
 case atStart=>exact ⟨lo,d,rfl,hlo,H.out,rfl⟩
 case round =>
  obtain ⟨r,dk,rfl,hr,hR,hE⟩:=hrel
  have HE:=Lib.hid hE
  clear hE
  by_cases h1:2 * r+1 < hi
  ·have h1i:¬ (hi:Int)≤2 * (r:Int)+1:=by omega
   have HR:=Lib.hid hR
   go_upto_region 3 with fail
   go_cut [36] from 11 to 75 (fun v wx=>v = .bool (kid dk hi F r)∧RW w0 blk off N d0 dk wx)
   case first =>
    by_cases h2:2 * r+1+1 < hi
    ·have h2i:2 * (r:Int)+1+1 < (hi:Int):=by omega
     have c1:=hR.cell (j:=F+(2 * r+1)) (by omega)
     have c2:=hR.cell (j:=F+(2 * r+1)+1) (by omega)
     obtain ⟨x,hx⟩:∃ x,x=dk[F+(2 * r+1)]! := ⟨_,rfl⟩
     obtain ⟨y,hy⟩:∃ x,x=dk[F+(2 * r+1)+1]! := ⟨_,rfl⟩
     rw [← hx] at c1
     rw [← hy] at c2
     have HX:=Lib.hid (And.intro hx hy)
     clear hR hx hy
     go_quiet ((go_at_call 139;exact Calls.quiet_of_same (less_q _ _ _)))
     have HQ:=Lib.hid (HR.out.drewN nq)
     clear c1 c2
     generalize wr.drewN nq=wq at HQ ⊢
     go_wp2
     go_meet
     case rel=>exact ⟨by
      unfold kid
      rw [← HX.out.1,← HX.out.2]
      simp [h2],HQ.out⟩
    ·have h2i:¬ 2 * (r:Int)+1+1 < (hi:Int):=by omega
     clear hR
     go_quiet (fail)
     have HQ:=Lib.hid (HR.out.drewN nq)
     generalize wr.drewN nq=wq at HQ ⊢
     go_wp2
     go_meet
     case rel=>exact ⟨by
      unfold kid
      simp [h2],HQ.out⟩
   case rest =>
    obtain ⟨rfl,hR2⟩:=hcut
    have HR2:=Lib.hid hR2
    clear hR2 hR HR
    go_upto_if 36 with fail
    go_cut [9] from 11 to 75 (fun v wx=>v = .int .i64 ((kidAt dk hi F r:Nat):Int)∧RW w0 blk off N d0 dk wx)
    case first =>
     rcases Bool.eq_false_or_eq_true (kid dk hi F r) with hk|hk
     ·have HK:=Lib.hid hk
      rw [hk]
      clear hk
      go_wp2
      go_meet
      case rel=>exact ⟨by
       unfold kidAt
       rw [if_pos HK.out]
       go_num,HR2.out⟩
     ·have HK:=Lib.hid hk
      rw [hk]
      clear hk
      go_wp2
      go_meet
      case rel=>exact ⟨by
       unfold kidAt
       rw [HK.out]
       go_num,HR2.out⟩
    case rest =>
     obtain ⟨rfl,hR3⟩:=hcut
     have HE1:=Lib.hid (fun h2=>sift_stop (d:=dk) (F:=F) h1 h2)
     have HE2:=Lib.hid (fun h2=>sift_go (d:=dk) (F:=F) h1 h2)
     have hk:=kid_lt (d:=dk) (F:=F) h1
     obtain ⟨c,hc⟩:∃ c,c=kidAt dk hi F r:=⟨_,rfl⟩
     rw [← hc] at HE1 HE2 hk ⊢
     have HR3:=Lib.hid hR3
     have c1:=hR3.cell (j:=F+r) (by omega)
     have c2:=hR3.cell (j:=F+c) (by omega)
     obtain ⟨x,hx⟩:∃ x,x=dk[F+r]! := ⟨_,rfl⟩
     obtain ⟨y,hy⟩:∃ x,x=dk[F+c]! := ⟨_,rfl⟩
     rw [← hx] at c1 HE1 HE2
     rw [← hy] at c2 HE1 HE2
     have HX:=Lib.hid (And.intro hx hy)
     clear hR3 hx hy HR2 hc
     go_wp2_with fail
     go_quiet ((go_at_call 139;exact Calls.quiet_of_same (less_q _ _ _)))
     have HQ:=Lib.hid (HR3.out.drewN nq)
     have f1:=HQ.out.frozen (j:=F+r) (by omega)
     have f2:=HQ.out.frozen (j:=F+c) (by omega)
     have q1:(wc.drewN nq).cell? ⟨blk,off+(F+r),none⟩=some (.int .u32 x):=c1
     have q2:(wc.drewN nq).cell? ⟨blk,off+(F+c),none⟩=some (.int .u32 y):=c2
     clear c1 c2
     generalize wc.drewN nq=wq at HQ f1 f2 q1 q2 ⊢
     rcases Bool.eq_false_or_eq_true (ltInt x y) with hxy|hxy
     ·have HXY:=Lib.hid hxy
      rw [hxy]
      clear hxy
      go_wp2_with fail
      go_region
      have HS:=Lib.hid (show RW w0 blk off N d0 (swp dk (F+r) (F+c)) ((wq.setCell ⟨blk,off+(F+r),none⟩ (.int .u32 y)).setCell ⟨blk,off+(F+c),none⟩ (.int .u32 x)) from by
       rw [HX.out.1,HX.out.2]
       exact HQ.out.swp (by omega) (by omega))
      clear f1 f2 q1 q2
      generalize (wq.setCell ⟨blk,off+(F+r),none⟩ (.int .u32 y)).setCell ⟨blk,off+(F+c),none⟩ (.int .u32 x)=ws at HS ⊢
      go_wp2
      go_roundw
      case rel=>exact ⟨c,_,rfl,by omega,HS.out.drew,by rw [← HE.out,HE2.out HXY.out]⟩
      case measure=>(simp [intOf] <;> omega)
     ·have HXY:=Lib.hid hxy
      rw [hxy]
      clear hxy f1 f2 q1 q2
      go_wp2
      (try simp only [Exit.inBlock,Exit.then]);refine bodyPost_ret (results_none rfl _ _ _) rfl ?_
      refine ⟨rfl,?_⟩
      rw [← HE.out,HE1.out HXY.out]
      exact HQ.out
  ·have h1i:(hi:Int)≤2 * (r:Int)+1:=by omega
   have HR:=Lib.hid hR
   clear hR
   go_wp2
   go_end0
   refine ⟨rfl,?_⟩
   rw [← HE.out,sift_end h1]
   exact HR.out
theorem heap_any (h:RW w0 blk off N d0 d w) (cap:Nat) {a b:Nat} (hab:a≤b) (hb:b≤N):Calls Tryz.prog 134 #[.slice (some ⟨blk,off,none⟩) N cap,.int .i64 a,.int .i64 b] w fun e w'=>e = .returned (.tuple #[])∧RW w0 blk off N d0 (heapSort ltInt d a b) w':=by
 have hN:=h.base.few
 have H:=Lib.hid h
 clear h
 obtain ⟨hi,hhi⟩:∃ hi,b=a+hi:=⟨b - a,by omega⟩
 have HE:=Lib.hid (show heapPop ltInt a hi (heapBuild ltInt hi a ((hi - 1) / 2+1) d)=heapSort ltInt d a b from by rw [hhi];unfold heapSort;rw [Nat.add_sub_cancel_left])
 have HH:=Lib.hid hhi
 obtain ⟨dz,hdz⟩:∃ dz,dz=heapBuild ltInt hi a ((hi - 1) / 2+1) d:=⟨_,rfl⟩
 rw [← hdz] at HE
 have HDZ:=Lib.hid hdz
 clear hdz
 have hsub:(b:Int) - (a:Int)=(hi:Int):=by omega
 have hhb:a+hi≤N:=by omega
 clear hhi
 have hquo:((hi:Int) - 1).tdiv 2=((((hi - 1) / 2:Nat)):Int):=by
  rcases Nat.eq_zero_or_pos hi with h|h
  ·subst h;rfl
  ·rw [Int.tdiv_eq_ediv_of_nonneg (by omega)];omega
 obtain ⟨k0,hk0⟩:∃ k0,k0=(hi - 1) / 2:=⟨_,rfl⟩
 rw [← hk0] at hquo HDZ
 have hk1:k0≤hi:=by omega
 have HK0:=Lib.hid hk0
 clear hk0
 go_enter Tryz.func134,Tryz.ntmps134
 go_wp2
 go_loopw [9] (fun v wr=>∃ (k:Nat) (dk:Array Int),v = .int .i64 ((k:Int) - 1)∧k≤k0+1∧RW w0 blk off N d0 dk wr∧heapBuild ltInt hi a k dk=dz) (fun v _=>(intOf v+1).toNat)
 case atStart=>exact ⟨k0+1,d,by go_num,by omega,H.out,HDZ.out.symm⟩
 case round =>
  obtain ⟨k,dk,rfl,hk,hR,hE⟩:=hrel
  have HR:=Lib.hid hR
  have HEK:=Lib.hid hE
  clear hR hE
  by_cases hkz:0 < k
  ·have hki:(0:Int)≤(k:Int) - 1:=by omega
   obtain ⟨j,rfl⟩:∃ j,k=j+1:=⟨k - 1,by omega⟩
   have HC:=Lib.hid (sift_any HR.out cap (lo:=j) (hi:=hi) (F:=a) (by omega) hhb)
   have hj:((j+1:Nat):Int) - 1=(j:Int):=by omega
   go_wp2_with (first|(go_at_call 143;refine HC.out.mono ?_;rintro e w1 ⟨rfl,hR1⟩;have HR1:=Lib.hid hR1;clear hR1))
   go_roundw
   case rel=>exact ⟨j,_,rfl,by omega,HR1.out,HEK.out⟩
   case measure=>(simp [intOf] <;> omega)
  ·have hki:¬ (0:Int)≤(k:Int) - 1:=by omega
   have hk00:k=0:=by omega
   have HED:=Lib.hid (show dk=dz from by
    have h1:=HEK.out
    rw [hk00] at h1
    exact h1)
   clear hk00
   clear HEK
   obtain rfl:dz=dk:=HED.out.symm
   clear HED hk hkz
   go_wp2
   go_loopw [10] (fun v wr=>∃ (k:Nat) (dk:Array Int),v = .int .i64 ((k:Int) - 1)∧k≤hi∧RW w0 blk off N d0 dk wr∧heapPop ltInt a k dk=heapSort ltInt d a b) (fun v _=>(intOf v+1).toNat)
   case atStart=>exact ⟨hi,dz,by go_num,by omega,HR.out,HE.out⟩
   case round =>
    obtain ⟨k,dl,rfl,hk,hR,hE⟩:=hrel
    have HRL:=Lib.hid hR
    have HEK:=Lib.hid hE
    clear hE
    by_cases hkz:0 < k
    ·have hki:(0:Int)≤(k:Int) - 1:=by omega
     obtain ⟨j,rfl⟩:∃ j,k=j+1:=⟨k - 1,by omega⟩
     have hj:((j+1:Nat):Int) - 1=(j:Int):=by omega
     have hjh:j < hi:=by omega
     have c1:=hR.cell (j:=a) (by omega)
     have c2:=hR.cell (j:=a+j) (by omega)
     have f1:=hR.frozen (j:=a) (by omega)
     have f2:=hR.frozen (j:=a+j) (by omega)
     obtain ⟨x,hx⟩:∃ x,x=dl[a]! := ⟨_,rfl⟩
     obtain ⟨y,hy⟩:∃ x,x=dl[a+j]! := ⟨_,rfl⟩
     rw [← hx] at c1
     rw [← hy] at c2
     have HX:=Lib.hid (And.intro hx hy)
     have g2:(wr.setCell ⟨blk,off+a,none⟩ (.int .u32 y)).drew.cell? ⟨blk,off+(a+j),none⟩=some (.int .u32 y):=twice hR (by omega) (by omega) c2 (by omega)
     clear hR hx hy
     go_wp2_with fail
     go_region
     have HS:=Lib.hid (show RW w0 blk off N d0 (swp dl a (a+j)) ((wr.setCell ⟨blk,off+a,none⟩ (.int .u32 y)).setCell ⟨blk,off+(a+j),none⟩ (.int .u32 x)) from by
      rw [HX.out.1,HX.out.2]
      exact HRL.out.swp (by omega) (by omega))
     clear f1 f2 c1 c2
     generalize (wr.setCell ⟨blk,off+a,none⟩ (.int .u32 y)).setCell ⟨blk,off+(a+j),none⟩ (.int .u32 x)=ws at HS ⊢
     have HC:=Lib.hid (sift_any HS.out.drew cap (lo:=0) (hi:=j) (F:=a) (by omega) (by omega))
     go_wp2_with (first|(go_at_call 143;refine HC.out.mono ?_;rintro e w1 ⟨rfl,hR1⟩;have HR1:=Lib.hid hR1;clear hR1))
     go_roundw
     case rel=>exact ⟨j,_,rfl,by omega,HR1.out,HEK.out⟩
     case measure=>(simp [intOf] <;> omega)
    ·have hki:¬ (0:Int)≤(k:Int) - 1:=by omega
     obtain rfl:k=0:=by omega
     have HED:=Lib.hid (show dl=heapSort ltInt d a b from HEK.out)
     clear HEK hR
     go_wp2
     go_end0
     exact ⟨rfl,HED.out ▸ HRL.out⟩
end
end Go.Proofs.YtgjofinbdigmcaaGreat.Srt
end

/- A range turned round; patterns broken. The library's contracts on numbers' texts and on slices, laid at this translation by the kit's tools. The sort's own loop and recursion: what it leaves is a permutation, and it rises. slices.Sort of a row of uint32: it holds what it held, sorted; a row of a call's own stays one. The keys of a map from uint32, by an iterator; collected; sorted. -/
import Derived.Test.YtgjofinbdigmcaaGreatG24
import Derived.Test.YtgjofinbdigmcaaGreatG26
import Derived.Shelf.Strings.Builder1
import Derived.Shelf.Strings.Builder2
import Derived.Shelf.Small.Bits
import Derived.Shelf.Small.Strs
import Derived.Shelf.Strings.BuilderF
import Derived.Shelf.Strconv.Itoa0
import Derived.Shelf.Strings.Prefix
import Derived.Shelf.Bits.Mul64
import Derived.Shelf.Strings.Repeat
import Derived.Test.YtgjofinbdigmcaaGreatProg
import Derived.Test.YtgjofinbdigmcaaGreatG25
import Derived.Sort.LotD6
import Derived.Sort.WalkA14
import Derived.Shelf.SlIter.Collect
import Derived.Shelf.SlIterI.Collect
import Derived.OwnWalkIn
import Derived.TacticsInMore
import Derived.RegionIn
import Derived.LoopNIn
import Derived.LoopIn
import Derived.Sort.MapsRangeIn
set_option linter.unusedSimpArgs false
set_option linter.unusedVariables false
set_option maxHeartbeats 4000000
set_option maxRecDepth 100000
section
namespace Go.Proofs.YtgjofinbdigmcaaGreat.Srt
open Go.Proofs.YtgjofinbdigmcaaGreat.Mem
open Go.RowKit Go.Sort
theorem but_set (w:World) (p i:Nat) (u:Value):But (fun k=>k=p) w (w.setCell ⟨p,i,none⟩ u):=(But.refl (fun k=>k=p) w).setCell (p:=⟨p,i,none⟩) rfl u
section
variable {w0 w w':World} {blk off N:Nat} {d0 d d':Array Int}
theorem rev_any (h:RW w0 blk off N d0 d w) (cap:Nat) {a b:Nat} (hab:a < b) (hb:b≤N):Calls Tryz.prog 137 #[.slice (some ⟨blk,off,none⟩) N cap,.int .i64 a,.int .i64 b] w fun e w'=>e = .returned (.tuple #[])∧RW w0 blk off N d0 (reverseRange d a b) w':=by
 have hN:=h.base.few
 have H:=Lib.hid h
 clear h
 go_enter Tryz.func137,Tryz.ntmps137
 go_wp2
 go_loopw [6,7] (fun v u wr=>∃ (i j:Nat) (dk:Array Int),v = .int .i64 (i:Int)∧u = .int .i64 (j:Int)∧i≤b∧j < b∧RW w0 blk off N d0 dk wr∧reverseLoop i j dk=reverseRange d a b) (fun v u _=>(intOf u).toNat)
 case atStart=>exact ⟨a,b - 1,d,rfl,by go_num,by omega,by omega,H.out,rfl⟩
 case round =>
  obtain ⟨i,j,dk,rfl,rfl,hi,hj,hR,hE⟩:=hrel
  have HR:=Lib.hid hR
  have HE:=Lib.hid hE
  clear hE
  by_cases hij:i < j
  ·have hiji:(i:Int) < (j:Int):=by omega
   have c1:=hR.cell (j:=i) (by omega)
   have c2:=hR.cell (j:=j) (by omega)
   have f1:=hR.frozen (j:=i) (by omega)
   have f2:=hR.frozen (j:=j) (by omega)
   obtain ⟨x,hx⟩:∃ x,x=dk[i]! := ⟨_,rfl⟩
   obtain ⟨y,hy⟩:∃ x,x=dk[j]! := ⟨_,rfl⟩
   rw [← hx] at c1
   rw [← hy] at c2
   have HX:=Lib.hid (And.intro hx hy)
   clear hR hx hy
   go_wp2_with fail
   go_region
   have HS:=Lib.hid (show RW w0 blk off N d0 (swp dk i j) ((wr.setCell ⟨blk,off+i,none⟩ (.int .u32 y)).setCell ⟨blk,off+j,none⟩ (.int .u32 x)) from by
    rw [HX.out.1,HX.out.2]
    exact HR.out.swp (by omega) (by omega))
   clear f1 f2 c1 c2
   generalize (wr.setCell ⟨blk,off+i,none⟩ (.int .u32 y)).setCell ⟨blk,off+j,none⟩ (.int .u32 x)=ws at HS ⊢
   go_wp2
   go_roundw
   case rel=>exact ⟨i+1,j - 1,_,by go_num,by go_num,by omega,by omega,HS.out.drew,by
    rw [← HE.out]
    conv=>rhs;unfold reverseLoop
    rw [if_pos hij]⟩
   case measure=>(simp [intOf] <;> omega)
  ·have hiji:¬ (i:Int) < (j:Int):=by omega
   clear hR
   go_wp2
   go_end0
   refine ⟨rfl,?_⟩
   rw [← HE.out]
   unfold reverseLoop
   rw [if_neg hij]
   exact HR.out
def bpN (a L M i0:Nat):Nat→UInt64 × Array Int→UInt64 × Array Int
 | 0,st=>st
 | t+1,st=>breakStep a L M (bpN a L M i0 t st) (i0+t)
theorem bp_eq (d:Array Int) (a L:Nat) (h8:8≤L):breakPatterns d a (a+L)=(bpN a L (1 <<< bitsLen L) (a+L / 4 * 2 - 1) 3 (UInt64.ofNat L,d)).2:=by
 unfold breakPatterns
 simp only [Nat.add_sub_cancel_left]
 rw [if_pos h8]
 rfl
theorem next_any (rb:Nat) (r:UInt64) (w:World) (hc:w.cell? ⟨rb,0,none⟩=some (.int .u64 (r.toNat:Int))) (hf:w.frozen? ⟨rb,0,none⟩=false) :
  Calls Tryz.prog 130 #[.pointer (some ⟨rb,0,none⟩)] w fun e w'=>e = .returned (.int .u64 ((xorNext r).toNat:Int))∧w'=(w.setCell ⟨rb,0,none⟩ (.int .u64 ((xorNext r).toNat:Int))).drewN 3:=by
 rw [xorNext_toNat]
 exact AnyF.xorshift_Next Tryz.xorNext rb 0 r.toNat r.toNat_lt w hc hf
theorem pow_any (n:Nat) (hn:n < 4611686018427387904) (w:World):Calls Tryz.prog 129 #[.int .i64 n] w fun e w'=>e = .returned (.int .u64 ((1 <<< bitsLen n:Nat):Int))∧w'=w:=AnyF.nextPowerOfTwo Tryz.nextPow n hn w
theorem break_any (h:RW w0 blk off N d0 d w) (cap:Nat) {a b L:Nat} (hL:b=a+L) (h8:8≤L) (hb:b≤N):Calls Tryz.prog 135 #[.slice (some ⟨blk,off,none⟩) N cap,.int .i64 a,.int .i64 b] w fun e w'=>e = .returned (.tuple #[])∧RW w0 blk off N d0 (breakPatterns d a b) w':=by
 have hN:=h.base.few
 have HE:=Lib.hid (bp_eq d a L h8)
 rw [← hL] at HE
 have HP:=Lib.hid (pow_any L (by omega))
 obtain ⟨M,hM⟩:∃ M:Nat,M=1 <<< bitsLen L:=⟨_,rfl⟩
 rw [← hM] at HE HP
 have hM1:1≤M:=by rw [hM,Nat.one_shiftLeft];exact Nat.two_pow_pos _
 have hM2:M≤2 * L:=by rw [hM,Nat.one_shiftLeft];exact two_pow_bitsLen_le (by omega)
 have hsub:(b:Int) - (a:Int)=(L:Int):=by omega
 have hq:(L:Int).tdiv 4=((L / 4:Nat):Int):=by rw [Int.tdiv_eq_ediv_of_nonneg (by omega)];omega
 obtain ⟨q,hqq⟩:∃ q,q=L / 4:=⟨_,rfl⟩
 rw [← hqq] at hq HE
 have hlq:4 * q≤L∧2≤q:=by omega
 have haN:a+L≤N:=by omega
 have h8i:(8:Int)≤(L:Int):=by omega
 have HS:=Lib.hid (show RW w0 blk off N d0 d (w.alloc (.cells #[.int .u64 (L:Int)] 179))∧Blk (w.alloc (.cells #[.int .u64 (L:Int)] 179)) w.heap.size 179 #[.int .u64 (L:Int)]∧w0.heap.size≤w.heap.size from ⟨h.alloc _,Blk.new w _ _,h.le⟩)
 obtain ⟨sp,hsp⟩:∃ sp,sp=w.heap.size:=⟨_,rfl⟩
 have HSP:=Lib.hid hsp
 have hLL:(UInt64.ofNat L).toNat=L:=by simp;omega
 clear hL hqq hsp h hM
 go_enter Tryz.func135,Tryz.ntmps135
 go_wp2_with (first|(go_at_call 129;refine (HP.out _).mono ?_;rintro e w' ⟨rfl,rfl⟩))
 rw [← HSP.out]
 rw [← HSP.out] at HS
 generalize w.alloc (.cells #[.int .u64 (L:Int)] 179)=w1 at HS ⊢
 have hlow:=HS.out.2.2
 clear HSP
 go_loopw [9] (fun v wr=>∃ (t:Nat) (r:UInt64) (dk:Array Int),v = .int .i64 ((a:Int)+(q:Int) * 2 - 1+(t:Int))∧t≤3∧RW w0 blk off N d0 dk wr∧Blk wr sp 179 #[.int .u64 (r.toNat:Int)]∧bpN a L M (a+q * 2 - 1) t (UInt64.ofNat L,d)=(r,dk)) (fun v _=>((a:Int)+(q:Int) * 2+2 - intOf v).toNat)
 case atStart=>exact ⟨0,UInt64.ofNat L,d,by simp,by omega,HS.out.1,by rw [hLL];exact HS.out.2.1,rfl⟩
 case round =>
  obtain ⟨t,r,dk,rfl,ht,hR,hB,hE⟩:=hrel
  have HEK:=Lib.hid hE
  clear hE hLL
  by_cases ht3:t < 3
  ·have hti:(a:Int)+(q:Int) * 2 - 1+(t:Int)≤(a:Int)+(q:Int) * 2+1:=by omega
   have HNX:=Lib.hid (next_any sp r wr (hB.cell 0) (hB.frozen 0))
   obtain ⟨r2,hr2⟩:∃ r2,r2=xorNext r:=⟨_,rfl⟩
   rw [← hr2] at HNX
   obtain ⟨R,hRR⟩:∃ R:Nat,R=r2.toNat:=⟨_,rfl⟩
   have lR:R < 18446744073709551616:=by rw [hRR];exact r2.toNat_lt
   rw [← hRR] at HNX
   have HR2:=Lib.hid (show RW w0 blk off N d0 dk ((wr.setCell ⟨sp,0,none⟩ (.int .u64 (R:Int))).drewN 3)∧Blk ((wr.setCell ⟨sp,0,none⟩ (.int .u64 (R:Int))).drewN 3) sp 179 #[.int .u64 (R:Int)] from ⟨(hR.newer hlow _ _).drewN 3,hB.set_ 0 _⟩)
   have HRR:=Lib.hid (And.intro hr2 hRR)
   generalize (wr.setCell ⟨sp,0,none⟩ (.int .u64 (R:Int))).drewN 3=w2 at HNX HR2
   clear hR hB hr2 hRR
   obtain ⟨O,hO⟩:∃ O:Nat,O=R &&& (M - 1):=⟨_,rfl⟩
   have lO:O≤M - 1:=by rw [hO];exact Nat.and_le_right
   have eAnd:bits .and .u64 (R:Int) ((M:Int) - 1)=(O:Int):=by
    rw [show ((M:Int) - 1)=((M - 1:Nat):Int) by omega,bits_and_u64_nat _ _ lR (by omega),hO]
   have HO:=Lib.hid hO
   clear hO
   obtain ⟨o,ho⟩:∃ o,o=if O ≥ L then O - L else O:=⟨_,rfl⟩
   have hoL:o < L:=by rw [ho];split <;> omega
   have Ho:=Lib.hid ho
   clear ho
   go_upto_if 43 with (first|(go_at_call 130;refine HNX.out.mono ?_;rintro e w' ⟨rfl,hw⟩;obtain rfl:w2=w':=hw.symm))
   go_cut [10] from 26 to 64 (fun v wx=>v = .int .i64 (o:Int)∧w2=wx)
   case first =>
    by_cases hOL:L≤O
    ·have hOLi:(L:Int)≤(O:Int):=by omega
     go_wp2
     go_meet
     case rel=>exact ⟨by rw [Ho.out,if_pos hOL];go_num,rfl⟩
    ·have hOLi:¬ (L:Int)≤(O:Int):=by omega
     go_wp2
     go_meet
     case rel=>exact ⟨by rw [Ho.out,if_neg hOL],rfl⟩
   case rest =>
    obtain ⟨rfl,rfl⟩:=hcut
    clear HNX eAnd
    obtain ⟨hR3,hB3⟩:=HR2.out
    obtain ⟨i,hi⟩:∃ i,i=a+q * 2 - 1+t:=⟨_,rfl⟩
    have hii:(a:Int)+(q:Int) * 2 - 1+(t:Int)=(i:Int):=by omega
    have hiN:i < N:=by omega
    have HI:=Lib.hid hi
    have c1:=hR3.cell (j:=i) hiN
    have c2:=hR3.cell (j:=a+o) (by omega)
    have f1:=hR3.frozen (j:=i) hiN
    have f2:=hR3.frozen (j:=a+o) (by omega)
    obtain ⟨x,hx⟩:∃ x,x=dk[i]! := ⟨_,rfl⟩
    obtain ⟨y,hy⟩:∃ x,x=dk[a+o]! := ⟨_,rfl⟩
    rw [← hx] at c1
    rw [← hy] at c2
    have HX:=Lib.hid (And.intro hx hy)
    have g2:(w2.setCell ⟨blk,off+i,none⟩ (.int .u32 y)).drew.cell? ⟨blk,off+(a+o),none⟩=some (.int .u32 y):=twice hR3 hiN (by omega) c2 (by omega)
    clear hR3 hx hy hB3 hi
    go_wp2_with fail
    go_region
    have HS2:=Lib.hid (show RW w0 blk off N d0 (swp dk i (a+o)) ((w2.setCell ⟨blk,off+i,none⟩ (.int .u32 y)).setCell ⟨blk,off+(a+o),none⟩ (.int .u32 x))∧Blk ((w2.setCell ⟨blk,off+i,none⟩ (.int .u32 y)).setCell ⟨blk,off+(a+o),none⟩ (.int .u32 x)) sp 179 #[.int .u64 (R:Int)] from by
     have hne:sp≠blk:=by have:=HR2.out.1.base.lt;omega
     refine ⟨by rw [HX.out.1,HX.out.2];exact HR2.out.1.swp hiN (by omega),?_⟩
     exact HR2.out.2.but ((but_set _ _ _ _).trans' (but_set _ _ _ _)) hne)
    clear f1 f2 c1 c2 g2
    generalize (w2.setCell ⟨blk,off+i,none⟩ (.int .u32 y)).setCell ⟨blk,off+(a+o),none⟩ (.int .u32 x)=ws at HS2 ⊢
    go_wp2
    go_roundw
    case rel=>exact ⟨t+1,r2,_,by go_num,by omega,HS2.out.1.drew,by rw [← HRR.out.2];exact HS2.out.2,by
     show breakStep a L M (bpN a L M (a+q * 2 - 1) t (UInt64.ofNat L,d)) (a+q * 2 - 1+t)=_
     rw [HEK.out]
     unfold breakStep
     have h1:=Ho.out
     rw [HO.out,HRR.out.2,HRR.out.1] at h1
     simp only [← HI.out]
     rw [HRR.out.1]
     rw [h1]⟩
    case measure=>(simp [intOf] <;> omega)
  ·have hti:¬ (a:Int)+(q:Int) * 2 - 1+(t:Int)≤(a:Int)+(q:Int) * 2+1:=by omega
   have HR:=Lib.hid hR
   obtain rfl:t=3:=by omega
   clear hR hB
   go_wp2
   go_end0
   refine ⟨rfl,?_⟩
   rw [HE.out,HEK.out]
   exact HR.out
end
end Go.Proofs.YtgjofinbdigmcaaGreat.Srt
end
section
namespace Go.Proofs
open Go.Shelf
def Tryz.lays125_ren:Go.Shelf.Ren:=⟨fun|125=>104|128=>121|129=>122|n=>n,fun|46=>120|3=>3|51=>22|53=>26|4=>4|5=>5|9=>9|n=>n,fun|n=>n⟩
theorem Tryz.lays125:Go.Proofs.Lays.n125 Tryz.prog Tryz.lays125_ren:={
 mixed:=by kernel_rfl
 f125:=Tryz.func104.trans (congrArg some (by kernel_rfl))
 f128:=Tryz.func121.trans (congrArg some (by kernel_rfl))
 f129:=Tryz.func122.trans (congrArg some (by kernel_rfl))
 t3:=Tryz.underlying3
 a3:=Tryz.isAgg3
 z3:=Tryz.sizeOf3
 v3:=Tryz.zeroValue3
 t4:=Tryz.underlying4
 a4:=Tryz.isAgg4
 z4:=Tryz.sizeOf4
 v4:=Tryz.zeroValue4
 t5:=Tryz.underlying5
 a5:=Tryz.isAgg5
 z5:=Tryz.sizeOf5
 v5:=Tryz.zeroValue5
 t9:=Tryz.underlying9
 a9:=Tryz.isAgg9
 z9:=Tryz.sizeOf9
 v9:=Tryz.zeroValue9
 t46:=Tryz.underlying120
 a46:=Tryz.isAgg120
 z46:=Tryz.sizeOf120
 v46:=Tryz.zeroValue120
 t51:=Tryz.underlying22
 a51:=Tryz.isAgg22
 z51:=Tryz.sizeOf22
 v51:=Tryz.zeroValue22
 t53:=Tryz.underlying26
 a53:=Tryz.isAgg26
 z53:=Tryz.sizeOf26
 v53:=Tryz.zeroValue26 }
theorem Tryz.bits_Len (x:Int) (w:World) (h0:0≤x) (h1:x≤18446744073709551615) :
  Calls Tryz.prog 104 #[.int .u64 x] w fun e w'=>e = .returned (.int .i64 (Lib.bitLen x.toNat))∧w'=w:=Any.bits_Len Tryz.lays125 x w h0 h1
end Go.Proofs
end
section
namespace Go.Proofs.YtgjofinbdigmcaaGreat.Srt
open Go.Proofs.YtgjofinbdigmcaaGreat.Mem
open Go.RowKit Go.Sort
def Fin (a b:Nat) (d:Array Int) (a' b':Nat) (dk:Array Int):Prop:=∀ R,PermIn a' b' dk R→SortedIn ltInt a' b' R→PermIn a b d R∧SortedIn ltInt a b R
theorem Fin.perm {a b a' b':Nat} {d dk dl:Array Int} (h:Fin a b d a' b' dk) (hp:PermIn a' b' dk dl):Fin a b d a' b' dl:=fun R h1 h2=>h R (permIn_trans _ _ _ _ _ hp h1) h2
section
variable {w0 w w':World} {blk off N:Nat} {d0:Array Int}
theorem pdq_any:∀ (n:Nat) (d:Array Int) (w:World) (h:RW w0 blk off N d0 d w) (cap a b limit:Nat) (hn:b - a < n) (hab:a≤b) (hb:b≤N) (hlim:limit < 4611686018427387904) (hB:Below ltInt a b d),
  Calls Tryz.prog 125 #[.slice (some ⟨blk,off,none⟩) N cap,.int .i64 a,.int .i64 b,.int .i64 limit] w fun e w'=>e = .returned (.tuple #[])∧∃ d',PermIn a b d d'∧SortedIn ltInt a b d'∧RW w0 blk off N d0 d' w':=by
 intro n
 induction n with
 | zero=>intro d w h cap a b limit hn;exact absurd hn (Nat.not_lt_zero _)
 | succ n ih =>
  intro d w h cap a b limit hn hab hb hlim hB
  have hN:=h.base.few
  have H:=Lib.hid h
  have HB:=Lib.hid hB
  have IH:=Lib.hid ih
  clear h hB ih
  go_enter Tryz.func125,Tryz.ntmps125
  go_wp2
  go_loopw [1,2,3,8,9] (fun s1 s2 s3 s8 s9 wr=>∃ (a' b' lim:Nat) (wb wp:Bool) (dk:Array Int),s1 = .int .i64 (a':Int)∧s2 = .int .i64 (b':Int)∧s3 = .int .i64 (lim:Int)∧s8 = .bool wb∧s9 = .bool wp ∧
   a'≤b'∧b'≤N∧b' - a'≤b - a∧lim < 4611686018427387904∧RW w0 blk off N d0 dk wr∧Below ltInt a' b' dk∧Fin a b d a' b' dk) (fun s1 s2 _ _ _ _=>(intOf s2).toNat - (intOf s1).toNat)
  case atStart=>exact ⟨a,b,limit,true,true,d,rfl,rfl,rfl,rfl,rfl,hab,hb,Nat.le_refl _,hlim,H.out,HB.out,fun R h1 h2=>⟨h1,h2⟩⟩
  case round =>
   obtain ⟨a',b',lim,wb,wp,dk,rfl,rfl,rfl,rfl,rfl,hab',hb',hle,hlim',hR,hBel,hF⟩:=hrel
   have HR:=Lib.hid hR
   have HBel:=Lib.hid hBel
   have HF:=Lib.hid hF
   clear hR hBel hF
   by_cases h12:b' - a'≤12
   ·have h12i:(b':Int) - (a':Int)≤12:=by omega
    have HC:=Lib.hid (ins_any HR.out cap hab' hb')
    go_wp2_with (first|(go_at_call 133;refine HC.out.mono ?_;rintro e w1 ⟨rfl,hR1⟩;have HR1:=Lib.hid hR1;clear hR1))
    (try simp only [Exit.inBlock,Exit.then]);refine bodyPost_ret (results_none rfl _ _ _) rfl ?_
    have h1:=insertionSort_holds swo_ltInt dk a' b' hab' (by rw [HR.out.size];exact hb')
    exact ⟨rfl,_,(HF.out _ h1.1 h1.2).1,(HF.out _ h1.1 h1.2).2,HR1.out⟩
   ·have h12i:¬ (b':Int) - (a':Int)≤12:=by omega
    by_cases hl0:lim=0
    ·have hl0i:(lim:Int)=0:=by omega
     have HC:=Lib.hid (heap_any HR.out cap hab' hb')
     go_wp2_with (first|(go_at_call 134;refine HC.out.mono ?_;rintro e w1 ⟨rfl,hR1⟩;have HR1:=Lib.hid hR1;clear hR1))
     (try simp only [Exit.inBlock,Exit.then]);refine bodyPost_ret (results_none rfl _ _ _) rfl ?_
     have h1:=heapSort_holds swo_ltInt dk a' b' hab' (by rw [HR.out.size];exact hb')
     exact ⟨rfl,_,(HF.out _ h1.1 h1.2).1,(HF.out _ h1.1 h1.2).2,HR1.out⟩
    ·have hl0i:¬ (lim:Int)=0:=by omega
     have hs0:dk.size=N:=HR.out.size
     go_upto_if 35 with fail
     go_cut [3] from 19 to 133 (fun s3 wx=>∃ (d1:Array Int) (l1:Nat),s3 = .int .i64 (l1:Int)∧l1 < 4611686018427387904∧PermIn a' b' dk d1∧RW w0 blk off N d0 d1 wx)
     case first =>
      cases wb
      ·have HC:=Lib.hid (break_any HR.out cap (a:=a') (b:=b') (L:=b' - a') (by omega) (by omega) hb')
       go_wp2_with (first|(go_at_call 135;refine HC.out.mono ?_;rintro e w1 ⟨rfl,hR1⟩;have HR1:=Lib.hid hR1;clear hR1))
       go_meet
       case rel=>exact ⟨_,lim - 1,by go_num,by omega,breakPatterns_holds dk a' b' hab' (by omega),HR1.out⟩
      ·go_wp2
       go_meet
       case rel=>exact ⟨dk,lim,rfl,hlim',permIn_refl _ _ _,HR.out⟩
     case rest =>
      obtain ⟨d1,l1,rfl,hl1,hP1,hR1⟩:=hcut
      have HR1:=Lib.hid hR1
      have HF1:=Lib.hid (HF.out.perm hP1)
      have HBel1:=Lib.hid (HBel.out.perm (by omega) hP1)
      have hs1:d1.size=N:=hR1.size
      clear hR1 hP1 HR HF HBel hs0
      have HC:=Lib.hid (pivot_any HR1.out cap (a:=a') (b:=b') (l:=b' - a') (by omega) (by omega) hb')
      have hc:=choosePivot_holds ltInt d1 a' b' (by omega)
      obtain ⟨p,hp⟩:∃ p,p=(choosePivot ltInt d1 a' b').1:=⟨_,rfl⟩
      obtain ⟨hi,hhi⟩:∃ p,p=(choosePivot ltInt d1 a' b').2:=⟨_,rfl⟩
      rw [← hp,← hhi] at HC
      rw [← hp] at hc
      clear hp hhi
      go_upto_if 50 with (first|(go_at_call 136;refine HC.out.mono ?_;rintro e w2 ⟨rfl,hR2⟩;have HR2:=Lib.hid hR2;clear hR2))
      go_cut [11,12] from 19 to 133 (fun s11 s12 wx=>∃ (d2:Array Int) (p2:Nat) (h2:Hint),s11 = .int .i64 (p2:Int)∧s12 = .int .i64 (hint3 h2)∧(a'≤p2∧p2 < b')∧PermIn a' b' d1 d2∧RW w0 blk off N d0 d2 wx)
      case first =>
       cases hi
       ·go_wp2
        go_meet
        case rel=>exact ⟨d1,p,.unknown,rfl,rfl,hc,permIn_refl _ _ _,HR2.out⟩
       ·go_wp2
        go_meet
        case rel=>exact ⟨d1,p,.increasing,rfl,rfl,hc,permIn_refl _ _ _,HR2.out⟩
       ·have HC2:=Lib.hid (rev_any HR2.out cap (a:=a') (b:=b') (by omega) hb')
        go_wp2_with (first|(go_at_call 137;refine HC2.out.mono ?_;rintro e w3 ⟨rfl,hR3⟩;have HR3:=Lib.hid hR3;clear hR3))
        go_meet
        case rel=>exact ⟨_,(b' - 1) - (p - a'),.increasing,by go_num,rfl,by omega,reverseRange_holds d1 a' b' hab' (by omega),HR3.out⟩
      case rest =>
       obtain ⟨d2,p2,h2,rfl,rfl,hp2,hP2,hR2⟩:=hcut
       have HR2':=Lib.hid hR2
       have HF2:=Lib.hid (HF1.out.perm hP2)
       have HBel2:=Lib.hid (HBel1.out.perm (by omega) hP2)
       have hs2:d2.size=N:=hR2.size
       clear hR2 hP2 HR1 HF1 HBel1 hs1 HC hc
       go_upto_region 15 with fail
       go_cut [68] from 19 to 133 (fun v wx=>∃ bb:Bool,v = .bool bb∧RW w0 blk off N d0 d2 wx)
       case first =>
        cases wb
        ·go_wp2
         go_meet
         case rel=>exact ⟨false,rfl,HR2'.out⟩
        ·cases wp
         ·go_wp2
          go_meet
          case rel=>exact ⟨false,rfl,HR2'.out⟩
         ·cases h2
          ·have e1:hint3 .unknown=0:=rfl
           go_wp2
           go_meet
           case rel=>exact ⟨false,rfl,HR2'.out⟩
          ·have e1:hint3 .increasing=1:=rfl
           go_wp2
           go_meet
           case rel=>exact ⟨true,rfl,HR2'.out⟩
          ·have e1:hint3 .decreasing=2:=rfl
           go_wp2
           go_meet
           case rel=>exact ⟨false,rfl,HR2'.out⟩
       case rest =>
        obtain ⟨bb,rfl,hR2⟩:=hcut
        have HRz:=Lib.hid hR2
        clear hR2 HR2'
        go_upto_if 68 with fail
        go_cut [] from 19 to 133 (fun wx=>∃ d3,PermIn a' b' d2 d3∧RW w0 blk off N d0 d3 wx)
        case first =>
         cases bb
         ·go_wp2
          go_meet
          case rel=>exact ⟨d2,permIn_refl _ _ _,HRz.out⟩
         ·have HC:=Lib.hid (pins_any HRz.out cap (a:=a') (b:=b') (by omega) hb')
          have h1:=partialInsertionSort_holds swo_ltInt d2 a' b' (by omega) (by omega) HBel2.out
          obtain ⟨rr,hrr⟩:∃ rr,rr=partialInsertionSort ltInt d2 a' b':=⟨_,rfl⟩
          rw [← hrr] at HC h1
          have H1:=Lib.hid h1
          clear hrr h1
          obtain ⟨r1,r2⟩:=rr
          cases r2
          ·go_wp2_with (first|(go_at_call 138;refine HC.out.mono ?_;rintro e w3 ⟨rfl,hR3⟩;have HR3:=Lib.hid hR3;clear hR3))
           go_meet
           case rel=>exact ⟨r1,H1.out.1,HR3.out⟩
          ·go_wp2_with (first|(go_at_call 138;refine HC.out.mono ?_;rintro e w3 ⟨rfl,hR3⟩;have HR3:=Lib.hid hR3;clear hR3))
           (try simp only [Exit.inBlock,Exit.then]);refine bodyPost_ret (results_none rfl _ _ _) rfl ?_
           have h1:=HF2.out _ H1.out.1 (H1.out.2 (by first|trivial|rfl))
           exact ⟨rfl,r1,h1.1,h1.2,HR3.out⟩
        case rest =>
         obtain ⟨d3,hP3,hR3⟩:=hcut
         have HR3:=Lib.hid hR3
         have HF3:=Lib.hid (HF2.out.perm hP3)
         have HBel3:=Lib.hid (HBel2.out.perm (by omega) hP3)
         have hs3:d3.size=N:=hR3.size
         clear hR3 hP3 HF2 HBel2 hs2 HRz
         go_upto_region 17 with fail
         go_cut [87] from 19 to 133 (fun v wx=>v = .bool (decide (0 < a') && !ltInt d3[a' - 1]! d3[p2]!)∧RW w0 blk off N d0 d3 wx)
         case first =>
          by_cases ha0:0 < a'
          ·have ha0i:(0:Int) < (a':Int):=by omega
           have c1:=HR3.out.cell (j:=a' - 1) (by omega)
           have c2:=HR3.out.cell (j:=p2) (by omega)
           obtain ⟨x,hx⟩:∃ x,x=d3[a' - 1]! := ⟨_,rfl⟩
           obtain ⟨y,hy⟩:∃ x,x=d3[p2]! := ⟨_,rfl⟩
           have HX:=Lib.hid (And.intro hx hy)
           rw [← hx] at c1
           rw [← hy] at c2
           clear hx hy
           go_quiet ((go_at_call 139;exact Calls.quiet_of_same (less_q _ _ _)))
           have HQ:=Lib.hid (HR3.out.drewN nq)
           clear c1 c2
           generalize wc.drewN nq=wq at HQ ⊢
           go_wp2
           go_meet
           case rel=>exact ⟨by rw [← HX.out.1,← HX.out.2];simp [ha0],HQ.out⟩
          ·have ha0i:¬ (0:Int) < (a':Int):=by omega
           go_quiet (fail)
           have HQ:=Lib.hid (HR3.out.drewN nq)
           generalize wc.drewN nq=wq at HQ ⊢
           go_wp2
           go_meet
           case rel=>exact ⟨by simp [ha0],HQ.out⟩
         case rest =>
          obtain ⟨rfl,hR4⟩:=hcut
          have HR4:=Lib.hid hR4
          clear hR4 HR3
          obtain ⟨bb,hbb⟩:∃ bb,bb=(decide (0 < a') && !ltInt d3[a' - 1]! d3[p2]!):=⟨_,rfl⟩
          rw [← hbb]
          have HBB:=Lib.hid hbb
          clear hbb
          cases bb
          ·have HC:=Lib.hid (part_any HR4.out cap hp2.1 hp2.2 hb')
           obtain ⟨q,hq⟩:∃ q,q=partition ltInt d3 a' b' p2:=⟨_,rfl⟩
           rw [← hq] at HC
           obtain ⟨mid,ap,d4⟩:=q
           obtain ⟨r1,r2,r3,r4,r5,r6,r7⟩:=round_part swo_ltInt (partition_holds ltInt) hp2.1 hp2.2 (by omega) HBel3.out hq.symm
           have R4:=Lib.hid r4
           have R5:=Lib.hid r5
           have R6:=Lib.hid r6
           have R7:=Lib.hid r7
           clear hq r4 r5 r6 r7
           go_upto_if 113 with (first|(go_at_call 141;refine HC.out.mono ?_;rintro e w5 ⟨rfl,hR5⟩;have HR5:=Lib.hid hR5;clear hR5))
           by_cases hsm:mid - a' < b' - mid
           ·have hsmi:(mid:Int) - (a':Int) < (b':Int) - (mid:Int):=by omega
            have HI:=Lib.hid (IH.out _ _ HR5.out cap a' mid l1 (by omega) r1 (by omega) hl1 R4.out)
            go_wp2_with (first|(go_at_call 125;refine HI.out.mono ?_;rintro e w6 ⟨rfl,hR6⟩;have HR6:=Lib.hid hR6;clear hR6))
            go_roundw
            case rel =>
             obtain ⟨L,hL1,hL2,hL3⟩:=HR6.out
             have h6:=R6.out L hL1 hL2
             exact ⟨mid+1,b',l1,_,ap,L,by go_num,rfl,rfl,rfl,rfl,by omega,hb',by omega,hl1,hL3,h6.1,fun R q1 q2=>(fun z=>HF3.out R z.1 z.2) (h6.2 R q1 q2)⟩
            case measure=>(simp [intOf] <;> omega)
           ·have hsmi:¬ (mid:Int) - (a':Int) < (b':Int) - (mid:Int):=by omega
            have HI:=Lib.hid (IH.out _ _ HR5.out cap (mid+1) b' l1 (by omega) (by omega) hb' hl1 R5.out)
            rw [show ((mid+1:Nat):Int)=(mid:Int)+1 from by omega] at HI
            go_wp2_with (first|(go_at_call 125;refine HI.out.mono ?_;rintro e w6 ⟨rfl,hR6⟩;have HR6:=Lib.hid hR6;clear hR6))
            go_roundw
            case rel =>
             obtain ⟨L,hL1,hL2,hL3⟩:=HR6.out
             have h7:=R7.out L hL1 hL2
             exact ⟨a',mid,l1,_,ap,L,rfl,rfl,rfl,rfl,rfl,by omega,by omega,by omega,hl1,hL3,h7.1,fun R q1 q2=>(fun z=>HF3.out R z.1 z.2) (h7.2 R q1 q2)⟩
            case measure=>(simp [intOf] <;> omega)
          ·have hbb:=HBB.out
           have h87:0 < a'∧ltInt d3[a' - 1]! d3[p2]! = false:=by simpa using hbb.symm
           have HC:=Lib.hid (partEq_any HR4.out cap hp2.1 hp2.2 hb')
           obtain ⟨q,hq⟩:∃ q,q=partitionEqual ltInt d3 a' b' p2:=⟨_,rfl⟩
           rw [← hq] at HC
           obtain ⟨mid,d4⟩:=q
           obtain ⟨r1,r2,r3,r4,r5⟩:=round_eq swo_ltInt (partitionEqual_holds ltInt) h87.1 hp2.1 hp2.2 (by omega) HBel3.out h87.2 hq.symm
           have R4:=Lib.hid r4
           have R5:=Lib.hid r5
           clear hq r4 r5 hbb h87
           go_wp2_with (first|(go_at_call 140;refine HC.out.mono ?_;rintro e w5 ⟨rfl,hR5⟩;have HR5:=Lib.hid hR5;clear hR5))
           go_roundw
           case rel=>exact ⟨mid,b',l1,wb,wp,d4,rfl,rfl,rfl,rfl,rfl,r2,hb',by omega,hl1,HR5.out,R4.out,fun R q1 q2=>(fun z=>HF3.out R z.1 z.2) (R5.out R q1 q2)⟩
           case measure=>(simp [intOf] <;> omega)
end
end Go.Proofs.YtgjofinbdigmcaaGreat.Srt
end
section
namespace Go.Proofs.YtgjofinbdigmcaaGreat.Srt
open Go.Proofs.YtgjofinbdigmcaaGreat.Mem
open Go.RowKit Go.Sort
def up (zs:List Int):List Int:=zs.mergeSort fun x y=>decide (x≤y)
theorem up_perm (zs:List Int):(up zs).Perm zs:=List.mergeSort_perm _ _
theorem up_length (zs:List Int):(up zs).length=zs.length:=(up_perm zs).length_eq
theorem sort_any (zs:List Int) (w:World) (blk off cap:Nat) (hH:Holds enc w blk off zs.toArray) (hb:blk < w.heap.size) (hz:zs.length < 4611686018427387904) :
  Calls Tryz.prog 107 #[.slice (some ⟨blk,off,none⟩) zs.length cap] w fun e w'=>e = .returned (.tuple #[])∧At enc w blk off (up zs).toArray w':=by
 obtain ⟨N,hN⟩:∃ N,N=zs.length:=⟨_,rfl⟩
 rw [← hN] at hz ⊢
 have hB:Base w blk off N zs.toArray:=⟨hH,by simp [hN],hb,hz⟩
 have hlim:Lib.bitLen N < 4611686018427387904:=by
  have h1:=bitLen_eq N (by omega)
  have h2:=(bitsLen_le_iff N 62).2 (by omega)
  omega
 have HL:=Lib.hid (fun w=>Tryz.bits_Len (N:Int) w (by omega) (by omega))
 rw [show ((N:Int)).toNat=N from Int.toNat_natCast N] at HL
 have HP:=Lib.hid (pdq_any (N+1) zs.toArray w (RW.start hB) cap 0 N (Lib.bitLen N) (by omega) (by omega) (Nat.le_refl _) hlim (Or.inl rfl))
 have HN:=Lib.hid hN
 have wr:IntKind.u64.wrap (N:Int)=(N:Int):=by simp [IntKind.wrap,IntKind.bits,IntKind.signed];omega
 clear hN hH hB hlim
 go_enter Tryz.func107,Tryz.ntmps107
 go_wp2_with (first
  | (go_at_call 104;refine (HL.out _).mono ?_;rintro e w1 ⟨rfl,rfl⟩)
  | (go_at_call 125;refine HP.out.mono ?_;rintro e w1 ⟨rfl,hR⟩;have HR:=Lib.hid hR;clear hR))
 go_end0
 obtain ⟨d',h1,h2,h3⟩:=HR.out
 have h4:=sorted_unique_holds swo_ltInt (fun x y h1 h2=>by simp only [ltInt,decide_eq_false_iff_not] at h1 h2;omega) zs.toArray d' (by simpa [HN.out] using h1) (by simpa [HN.out] using h2)
 have h5:d'=(up zs).toArray:=by
  unfold up
  rw [← Array.toList_inj,h4]
  congr 1
  funext x y
  simp only [ltInt]
  rw [← decide_not]
  exact decide_eq_decide.2 (by omega)
 exact ⟨rfl,h5 ▸ h3.at_⟩
theorem ins_none (p:Option Addr) (cap:Nat) (w:World):Calls Tryz.prog 133 #[.slice p 0 cap,.int .i64 0,.int .i64 0] w fun e w'=>e = .returned (.tuple #[])∧w=w':=by
 go_enter Tryz.func133,Tryz.ntmps133
 go_wp2
 go_loopw [6] (fun v wr=>v = .int .i64 1∧w=wr) (fun v _=>0)
 case atStart=>exact ⟨rfl,rfl⟩
 case round =>
  obtain ⟨rfl,rfl⟩:=hrel
  go_wp2
  go_end0
  exact ⟨rfl,rfl⟩
theorem pdq_none (p:Option Addr) (cap:Nat) (w:World):Calls Tryz.prog 125 #[.slice p 0 cap,.int .i64 0,.int .i64 0,.int .i64 0] w fun e w'=>e = .returned (.tuple #[])∧w=w':=by
 have HI:=Lib.hid (ins_none p cap)
 go_enter Tryz.func125,Tryz.ntmps125
 go_wp2
 go_loopw [1,2,3,8,9] (fun s1 s2 s3 s8 s9 wr=>s1 = .int .i64 0∧s2 = .int .i64 0∧s3 = .int .i64 0∧s8 = .bool true∧s9 = .bool true∧w=wr) (fun _ _ _ _ _ _=>0)
 case atStart=>exact ⟨rfl,rfl,rfl,rfl,rfl,rfl⟩
 case round =>
  obtain ⟨rfl,rfl,rfl,rfl,rfl,rfl⟩:=hrel
  go_wp2_with (first|(go_at_call 133;refine (HI.out _).mono ?_;rintro e w1 ⟨rfl,rfl⟩))
  (try simp only [Exit.inBlock,Exit.then]);refine bodyPost_ret (results_none rfl _ _ _) rfl ?_
  exact ⟨rfl,rfl⟩
theorem sort_none (p:Option Addr) (cap:Nat) (w:World):Calls Tryz.prog 107 #[.slice p 0 cap] w fun e w'=>e = .returned (.tuple #[])∧w=w':=by
 have HL:=Lib.hid (fun w=>Tryz.bits_Len 0 w (by omega) (by omega))
 have HP:=Lib.hid (pdq_none p cap)
 go_enter Tryz.func107,Tryz.ntmps107
 go_wp2_with (first
  | (go_at_call 104;refine (HL.out _).mono ?_;rintro e w1 ⟨rfl,rfl⟩)
  | (go_at_call 125;refine (HP.out _).mono ?_;rintro e w1 ⟨rfl,rfl⟩))
 go_end0
 exact ⟨rfl,rfl⟩
theorem holds_own {w:World} {g:Nat} {cur:Array Value} {zs:List Int} (h:w.heap[g]?=some (.cells cur 22 (0,0))) (ht:cur.toList.take zs.length=zs.map enc):Holds enc w g 0 zs.toArray:=by
 intro j hj
 have hj':j < zs.length:=by simpa using hj
 refine ⟨?_,by simp [World.frozen?,h]⟩
 rw [cell_of_row _ _ _ _ _ _ h,Nat.zero_add]
 have h1:(cur.toList.take zs.length)[j]?=(zs.map enc)[j]?:=by rw [ht]
 rw [List.getElem?_take_of_lt hj'] at h1
 simp [hj'] at h1
 simp [h1,hj']
theorem own_sorted {w w':World} {base g cap:Nat} {cur:Array Value} {zs:List Int} (hb:base≤g) (h:w.heap[g]?=some (.cells cur 22 (0,0))) (hl:zs.length≤cap) (hm:cap≤maxLen) (hc:cur.size=cap * 1)
  (hA:At enc w g 0 (up zs).toArray w'):w'.ownsRow base 22 1 (.slice (some ⟨g,0,none⟩) zs.length cap) zs.length ((up zs).map enc)∧But (fun k=>k=g) w w':=by
 obtain ⟨n,os,rfl⟩:=hA
 have hg:g < w.heap.size:=(Array.getElem?_eq_some_iff.1 h).1
 have h2:(grow (putRow enc (Go.Sort.ahead w n) g 0 (up zs).toArray) os).heap[g]?=some (.cells (putCells enc 0 (up zs).toArray cur) 22 (0,0)):=by
  rw [heap_grow_old _ _ (by simpa using hg)]
  show (w.heap.modify g (onCells _))[g]?=_
  rw [Array.getElem?_modify,if_pos rfl,h]
  rfl
 refine ⟨⟨by simp [up_length],.inr ⟨g,cap,_,rfl,hb,h2,hl,hm,by simpa [putCells] using hc,?_⟩⟩,?_⟩
 ·apply List.ext_getElem?
  intro i
  rw [Nat.mul_one]
  by_cases hi:i < zs.length
  ·rw [List.getElem?_take_of_lt hi]
   have hic:i < cur.size:=by omega
   simp [putCells,hic,hi,up_length]
  ·rw [List.getElem?_eq_none (by simp;omega),List.getElem?_eq_none (by simp [up_length];omega)]
 ·refine ⟨rfl,rfl,rfl,by simp,fun i hi hne=>?_⟩
  rw [heap_grow_old _ _ (by simpa using hi)]
  show (w.heap.modify g (onCells _))[i]?=_
  rw [Array.getElem?_modify,if_neg (fun e=>hne e.symm)]
end Go.Proofs.YtgjofinbdigmcaaGreat.Srt
end
section
namespace Go.Proofs.YtgjofinbdigmcaaGreat.Srt
open Go.Proofs.YtgjofinbdigmcaaGreat.Mem
open Go.RowKit Go.Sort
def Came {H:Type} (D:DataW H) (left:Lit→Bool) (ss:List Int):Prop:=ss.Nodup∧∀ x,x ∈ ss ↔ (Maps.has D (.int .u32 x)=true∧left (.int .u32 x)=false)
theorem Came.start {H:Type} (D:DataW H):Came D (Maps.has D) []:=⟨List.nodup_nil,fun x=>by cases Maps.has D (.int .u32 x) <;> simp⟩
theorem Came.step {H:Type} {D:DataW H} {left:Lit→Bool} {ss:List Int} (h:Came D left ss) {x:Int} {y:DataW H} (hl:left (.int .u32 x)=true) (ha:∀ z,D.atKey (.int .u32 x) z=y) :
  Came D (fun z=>left z && !z.sameKey (.int .u32 x)) (ss++[x]):=by
 have h1:Maps.has D (.int .u32 x)=true:=Maps.has_true_of_atKey ha
 have h2:x ∉ ss:=fun hx=>by
  have:=((h.2 x).1 hx).2
  rw [hl] at this;cases this
 refine ⟨List.nodup_append.2 ⟨h.1,by simp,?_⟩,fun y=>?_⟩
 ·intro a hin b hb e
  simp at hb
  subst hb e
  exact h2 hin
 ·by_cases hy:y=x
  ·subst hy
   simp [h1,Lit.sameKey]
  ·simp [h.2 y,hy,Lit.sameKey]
structure All {H:Type} (D:DataW H) (ss:List Int):Prop where
 came:Came D (fun _=>false) ss
 len:ss.length≤Maps.size D
theorem law:Maps.Keyed Tryz.prog 22:=Maps.int_keyed Tryz.underlying22
theorem keys_call (mb:Nat) (w:World):Calls Tryz.prog 91 #[.map (some mb)] w fun e w' =>
  e = .returned (.func (.func 108) #[] #[.pointer (some ⟨w.heap.size,0,none⟩)])∧w'=w.alloc (.cells #[.map (some mb)] 98):=by
 go_enter Tryz.func91,Tryz.ntmps91
 go_wp2
 go_ret
 exact ⟨rfl,rfl⟩
theorem iter_in {H:Type} (n:Nat) (hn:1≤n) (l Bm b nn:Nat) (D:DataW H) {R:Value→Option (DataW H × List MemPlace)} (J:List Int→World→Prop)
  (hY:∀ pre x W,J pre W→pre.length < Maps.size D→YieldAt Fence.wide (n - 1) Tryz.prog l #[enc x] W fun e W'=>e = .returned (.bool true)∧J (pre++[x]) W'∧KeepsWalks W W')
  (W:World) (hJ:AbidesFrom W.heap.size J) (hm:W.cell? ⟨Bm,0,none⟩=some (.map (some b))) (hown:W.ownsMap Tryz.prog 22 R b nn D) (h0:J [] W) :
  CallsIn Fence.wide n Tryz.prog 108 #[.func (.yield l) #[] #[],.pointer (some ⟨Bm,0,none⟩)] W fun e W'=>(∃ v,e = .returned v)∧∃ ss:List Int,All D ss∧J ss W':=by
 refine callsIn_of_wp Tryz.func108 rfl trivial ?_ rfl
 have hnt:=Tryz.ntmps108
 simp only [hnt,List.size_toArray,List.length_cons,List.length_nil,Nat.reduceAdd,Nat.reduceSub,Array.replicate_succ,Array.replicate_zero,List.push_toArray,List.append_toArray,List.nil_append,List.cons_append]
 clear hnt
 gi_wp2_with (first
  | (gi_at_range;refine wpListIn_range_own _ rfl _ 98 rfl 22 112 law Tryz.underlying98 _ b nn _ rfl hown ?_;intro w0 hrg0 hg0 hs0)
  | gi_in)
 go_frame
 gi_loopw [3] (fun _ wr=>∃ (left:Lit→Bool) (cnt:Nat) (ss:List Int),wr.ranges Tryz.prog 22 R b W.heap.size nn D left cnt∧ss.length+cnt≤Maps.size D∧Came D left ss∧J ss wr) (fun _ wr=>wr.rangeLeft b W.heap.size)
 case atStart=>exact ⟨_,_,[],hrg0,by simp,Came.start D,hJ [] W w0 none h0 hg0 (fun r e=>by cases e)⟩
 case round =>
  obtain ⟨left,cnt,ss,hrg,hcs,hC,hJs⟩:=hrel
  gi_wp2_with (first
   | (gi_at_next;refine wpListIn_next_ranges _ rfl _ rfl 22 law R enc id (fun key kl hk=>by obtain ⟨x,hx,_⟩:=Maps.keyOf_int_inv Tryz.underlying22 hk;exact ⟨x,hx⟩) (fun v _ _=>⟨v,rfl⟩) b W.heap.size nn _ _ _ rfl hrg ?_ ?_)
   | gi_in)
  ·intro hc0 hl0
   gi_wp2
   go_end0
   refine ⟨⟨_,rfl⟩,ss,⟨?_,by omega⟩,hJs⟩
   rwa [show left=fun _=>false from funext hl0] at hC
  ·intro x c kl yd yp w2 cnt2 hkey hlk hv hat hrg2 hlt hg2 hs2 hen
   obtain ⟨x',ex,rfl,_⟩:=Maps.keyOf_int_inv Tryz.underlying22 hkey
   obtain rfl:x=x':=by simpa [enc] using ex
   have hJ2:J ss w2:=hJ ss wr w2 (some W.heap.size) hJs hg2 (fun r e=>by cases e;exact ⟨Nat.le_refl _,hrg.iter_walk⟩)
   obtain ⟨fn,tmps,assign,body,hy,hR⟩:=hY ss x w2 hJ2 (by omega)
   clear hs2
   gi_wp2
   refine hR.mono ?_
   rintro e W3 ⟨rfl,hJ3,hk3⟩
   gi_wp2
   have hrg3:=hrg2.of_walks hk3
   go_roundw
   case rel=>exact ⟨_,cnt2,ss++[x],hrg3,by simp;omega,hC.step hlk hat,hJ3⟩
   case measure=>rw [hrg3.left_eq,hrg.left_eq];exact hlt
end Go.Proofs.YtgjofinbdigmcaaGreat.Srt
end

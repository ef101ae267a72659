/- What a log's manifest tells: of any bytes, and of those that were written. Contracts of a manifest's small calls: a segment's file name, the last segment, how many are ahead of a number, one segment more; whether a file is there. Contracts: how many segments are ahead of a number; whether a file is there; it is deleted, if it is. Contract: a manifest with one segment more. -/
import Derived.Test.YtbhoknnjilidnaaGreatDoorG21
import Derived.Test.YtbhoknnjilidnaaGreatDoorG27
import Derived.Test.YtbhoknnjilidnaaGreatDoorG01
import Derived.Lib.LaidTab
set_option linter.unusedSimpArgs false
set_option linter.unusedVariables false
set_option maxHeartbeats 4000000
set_option maxRecDepth 100000
section
namespace Go.Proofs.YtbhoknnjilidnaaGreatDoor.Seg
open Go.Proofs.YtbhoknnjilidnaaGreatDoor.Mem
open Go.Proofs.YtbhoknnjilidnaaGreatDoor.Pack (put num got left shortBy textLen textGot textLeft textShort put_length put_bytes num_put num_append got_front left_front short_front left_bytes got_bytes num_lt got_length_le)
open Go.Proofs.YtbhoknnjilidnaaGreatDoor.Frame (frm bad body many bad_frm body_frm many_frm)
theorem left_lt {zs:List Int} {k:Nat} (hk:1≤k) (h:zs≠[]):(left zs k).length < zs.length:=by
 have:=List.length_pos_iff.2 h
 unfold left
 split
 ·rw [List.length_drop];omega
 ·exact this
def segsFrom (last:Nat) (zs:List Int):Option (List Nat) :=
 if h:zs=[] then some []
 else if num (got zs 4)≤last∨num (got zs 4)=4294967295 then none
 else (segsFrom (num (got zs 4)) (left zs 4)).map (num (got zs 4) :: ·)
termination_by zs.length
decreasing_by exact left_lt (by omega) h
theorem segsFrom_nil (last:Nat):segsFrom last []=some []:=by rw [segsFrom];exact dif_pos rfl
theorem segsFrom_bad {last:Nat} {zs:List Int} (h:zs≠[]) (hb:num (got zs 4)≤last∨num (got zs 4)=4294967295):segsFrom last zs=none:=by
 rw [segsFrom,dif_neg h,if_pos hb]
theorem segsFrom_one {last:Nat} {zs:List Int} (h:zs≠[]) (hb:¬ (num (got zs 4)≤last∨num (got zs 4)=4294967295)):segsFrom last zs=(segsFrom (num (got zs 4)) (left zs 4)).map (num (got zs 4) :: ·):=by
 rw [segsFrom,dif_neg h,if_neg hb]
theorem num4_lt {zs:List Int} (h:Bytes zs):num (got zs 4) < 4294967296:=by
 have h1:=num_lt (got_bytes h 4)
 have h2:256 ^ (got zs 4).length≤256 ^ 4:=Pack.pow256_le (got_length_le zs 4)
 have h3:(256:Nat) ^ 4=4294967296:=by decide
 omega
theorem segsFrom_is {last:Nat} {zs:List Int} (hz:Bytes zs) {ns:List Nat} (h:segsFrom last zs=some ns):ns.Pairwise (· < ·)∧(∀ i ∈ ns,last < i∧i < 4294967295)∧4 * ns.length≤zs.length:=by
 induction hn:zs.length using Nat.strongRecOn generalizing last zs ns with
 | _ n ih =>
  by_cases he:zs=[]
  ·subst he
   rw [segsFrom_nil] at h
   injection h with h
   subst h
   exact ⟨List.Pairwise.nil,(fun i hi=>absurd hi List.not_mem_nil),Nat.zero_le _⟩
  ·by_cases hb:num (got zs 4)≤last∨num (got zs 4)=4294967295
   ·rw [segsFrom_bad he hb] at h;cases h
   ·rw [segsFrom_one he hb] at h
    obtain ⟨r,hr,rfl⟩:=Option.map_eq_some_iff.1 h
    have hlt:=left_lt (k:=4) (by omega) he
    obtain ⟨h1,h2,h3⟩:=ih _ (by rw [← hn];exact hlt) (left_bytes hz 4) hr rfl
    have h4:=num4_lt hz
    have h5:4≤zs.length:=by
     rcases Nat.lt_or_ge zs.length 4 with h6|h6
     ·exfalso
      have:got zs 4=[]:=if_neg (by omega)
      rw [this] at hb
      simp [num] at hb
     ·exact h6
    have h6:(left zs 4).length=zs.length - 4:=by unfold left;rw [if_pos h5,List.length_drop]
    refine ⟨List.pairwise_cons.2 ⟨fun i hi=>(h2 i hi).1,h1⟩,fun i hi=>?_,by rw [List.length_cons];omega⟩
    rcases List.mem_cons.1 hi with rfl|hi
    ·omega
    ·have:=h2 i hi;omega
theorem segsFrom_put {last:Nat} {nums:List Nat} (hr:nums.Pairwise (· < ·)) (hi:∀ i ∈ nums,last < i∧i < 4294967295):segsFrom last (nums.flatMap fun i=>put i 4)=some nums:=by
 induction nums generalizing last with
 | nil=>exact segsFrom_nil last
 | cons i r ih =>
  obtain ⟨h1,h2⟩:=List.pairwise_cons.1 hr
  rw [List.flatMap_cons]
  have hne:put i 4++r.flatMap (fun i=>put i 4)≠[]:=by
   intro e
   have:=congrArg List.length e
   rw [List.length_append,put_length] at this
   simp at this
  have hi0:=hi i List.mem_cons_self
  have hg:num (got (put i 4++r.flatMap fun i=>put i 4) 4)=i:=by
   rw [got_front _ (put_length _ _),num_put]
   exact Nat.mod_eq_of_lt (by omega)
  have hl:left (put i 4++r.flatMap fun i=>put i 4) 4=r.flatMap fun i=>put i 4:=left_front _ (put_length _ _)
  rw [segsFrom_one hne (by rw [hg];omega),hg,hl,ih h2 (fun k hk=>⟨h1 k hk,(hi k (List.mem_cons_of_mem _ hk)).2⟩)]
  rfl
def manRest (b:List Int):List Int:=left (left (textLeft b) 4) 1
def manShort (b:List Int):Bool:=shortBy (left (textLeft b) 4) 1 (shortBy (textLeft b) 4 (textShort b false))
def manBase (b:List Int):Nat:=num (got (textLeft b) 4)
def manFlag (b:List Int):Nat:=num (got (left (textLeft b) 4) 1)
def manOf (bs:List Int):Option (List Nat × Nat × Bool) :=
 if bad bs=0∧many bs=bs.length then
  match segsFrom 0 (textGot (body bs)) with
  | some ns=>if ns≠[]∧manFlag (body bs)≤1∧manShort (body bs)=false∧manRest (body bs)=[] then some (ns,manBase (body bs),decide (manFlag (body bs)=1)) else none
  | none=>none
 else none
theorem manOf_is {bs:List Int} (hb:Bytes bs) {ns:List Nat} {base:Nat} {begun:Bool} (h:manOf bs=some (ns,base,begun)):Nums ns∧(∀ i ∈ ns,i < 4294967295)∧base < 4294967296∧4 * ns.length≤65535:=by
 unfold manOf at h
 split at h
 ·split at h
  ·next ns' hs =>
   split at h
   ·next hc =>
    injection h with h
    obtain ⟨rfl,h2⟩:=Prod.mk.inj h
    obtain ⟨rfl,_⟩:=Prod.mk.inj h2
    have hbb:=Frame.body_bytes hb
    have ht:Bytes (textGot (body bs)):=got_bytes (left_bytes hbb 2) _
    obtain ⟨h1,h2,h3⟩:=segsFrom_is ht hs
    refine ⟨⟨h1,fun i hi=>by have:=h2 i hi;omega,hc.1⟩,fun i hi=>(h2 i hi).2,num4_lt (left_bytes (left_bytes hbb 2) _),?_⟩
    have h4:(textGot (body bs)).length≤textLen (body bs):=got_length_le _ _
    have h5:textLen (body bs) < 65536:=Pack.num_got2_lt hbb
    omega
   ·cases h
  ·cases h
 ·cases h
theorem text_front {n:Nat} {ts:List Int} (hn:ts.length=n) (h:n≤65535) (ys:List Int):textGot (put n 2++ts++ys)=ts∧textLeft (put n 2++ts++ys)=ys∧textShort (put n 2++ts++ys) false=false:=by
 have e0:put n 2++ts++ys=put n 2++(ts++ys):=List.append_assoc ..
 have e1:textLen (put n 2++(ts++ys))=n:=by
  unfold textLen
  rw [got_front _ (put_length _ _),num_put]
  exact Nat.mod_eq_of_lt (by omega)
 rw [e0]
 unfold textGot textLeft textShort
 rw [e1,left_front _ (put_length _ _)]
 exact ⟨got_front _ hn,left_front _ hn,by rw [short_front _ hn,short_front _ (put_length _ _)]⟩
theorem manBody_length (nums:List Nat) (base:Nat) (begun:Bool):(manBody nums base begun).length=7+4 * nums.length:=by
 unfold manBody
 simp only [List.length_append,put_length,flat4,List.length_singleton]
 omega
theorem flat4_bytes (nums:List Nat):Bytes (nums.flatMap fun i=>put i 4):=by
 intro z hz
 obtain ⟨i,_,h⟩:=List.mem_flatMap.1 hz
 exact put_bytes _ _ z h
theorem manBody_bytes (nums:List Nat) (base:Nat) (begun:Bool):Bytes (manBody nums base begun):=by
 unfold manBody
 refine bytes_append (bytes_append (bytes_append (put_bytes _ _) (flat4_bytes nums)) (put_bytes _ _)) ?_
 intro z hz
 rw [List.mem_singleton] at hz
 cases begun <;> simp at hz <;> omega
theorem manOf_put {nums:List Nat} (hN:Nums nums) (hi:∀ i ∈ nums,i < 4294967295) (hl:nums.length≤1000) {base:Nat} (hb:base < 4294967296) (begun:Bool):manOf (manFile nums base begun)=some (nums,base,begun):=by
 have hL:=manBody_length nums base begun
 have h1:1≤(manBody nums base begun).length:=by omega
 have h2:(manBody nums base begun).length≤20000:=by omega
 have e1:=bad_frm h1 h2 []
 have e2:=body_frm h1 h2 []
 have e3:=many_frm h1 h2 []
 rw [List.append_nil] at e1 e2 e3
 have e4:(manFile nums base begun).length=(manBody nums base begun).length+8:=Frame.frm_length _
 have e5:manBody nums base begun=put (4 * nums.length) 2++(nums.flatMap fun i=>put i 4)++(put base 4++[if begun then 1 else 0]):=by
  unfold manBody;rw [List.append_assoc]
 obtain ⟨t1,t2,t3⟩:=text_front (flat4 nums) (by omega) (put base 4++[if begun then 1 else 0])
 rw [← e5] at t1 t2 t3
 have l1:left (put base 4++[if begun then (1:Int) else 0]) 4=[if begun then 1 else 0]:=left_front _ (put_length _ _)
 have b1:manBase (manBody nums base begun)=base:=by
  unfold manBase
  rw [t2,got_front _ (put_length _ _),num_put]
  exact Nat.mod_eq_of_lt (by omega)
 have b2:manFlag (manBody nums base begun)=if begun then 1 else 0:=by
  unfold manFlag
  rw [t2,l1]
  cases begun <;> rfl
 have b3:manShort (manBody nums base begun)=false:=by
  unfold manShort
  rw [t2,t3,l1,short_front _ (put_length _ _)]
  cases begun <;> rfl
 have b4:manRest (manBody nums base begun)=[]:=by
  unfold manRest
  rw [t2,l1]
  cases begun <;> rfl
 have s1:=segsFrom_put (last:=0) hN.rising (fun i h=>⟨by have:=hN.pos i h;omega,hi i h⟩)
 unfold manOf
 rw [show manFile nums base begun=frm (manBody nums base begun) from rfl] at e4 ⊢
 rw [if_pos ⟨e1,by rw [e3,e4]⟩,e2,t1,s1]
 simp only
 rw [if_pos ⟨hN.some_,by rw [b2];cases begun <;> simp,b3,b4⟩,b1,b2]
 cases begun <;> rfl
theorem take_below {nums:List Nat} (h:nums.Pairwise (· < ·)) (base:Nat):nums.take (nums.countP fun i=>decide (i < base))=below base nums∧nums.drop (nums.countP fun i=>decide (i < base))=from_ base nums:=by
 unfold below from_
 induction nums with
 | nil=>exact ⟨rfl,rfl⟩
 | cons i r ih =>
  obtain ⟨h1,h2⟩:=List.pairwise_cons.1 h
  obtain ⟨g1,g2⟩:=ih h2
  by_cases hi:i < base
  ·rw [List.countP_cons_of_pos (by simpa using hi),List.take_succ_cons,List.drop_succ_cons,g1,g2,List.filter_cons_of_pos (by simpa using hi),List.filter_cons_of_neg (by simp;omega)]
   exact ⟨rfl,rfl⟩
  ·have hall:∀ k ∈ r,base≤k:=fun k hk=>by have:=h1 k hk;omega
   have c0:r.countP (fun i=>decide (i < base))=0:=List.countP_eq_zero.2 (fun k hk=>by have:=hall k hk;simp;omega)
   rw [List.countP_cons_of_neg (by simpa using hi),c0,List.take_zero,List.drop_zero,List.filter_cons_of_neg (by simpa using hi),List.filter_cons_of_pos (by simp;omega)]
   refine ⟨(List.filter_eq_nil_iff.2 (fun k hk=>by have:=hall k hk;simp;omega)).symm,?_⟩
   rw [List.filter_eq_self.2 (fun k hk=>by have:=hall k hk;simp;omega)]
end Go.Proofs.YtbhoknnjilidnaaGreatDoor.Seg
end
section
namespace Go.Proofs.YtbhoknnjilidnaaGreatDoor.Seg
open Go.Proofs.YtbhoknnjilidnaaGreatDoor.Mem
open Go.Proofs.YtbhoknnjilidnaaGreatDoor.Disk (Nm File St Eff Has grow errV used lenOf run)
open Go.Proofs (encStr)
open Go.ChangeShapes Go.WideShapes Go.ChangeAt Go.RowKit
def Can (w : World) (n : Nat) : Prop := n < 100 ∨ Lib.TabIs Tryz.prog w "internal/strconv.uint64pow10" .u64 Lib.pow10Tab
theorem dec_eq (n:Nat):Lib.decDigits n=dec n:=by
 induction n using Nat.strongRecOn with
 | _ n ih =>
  rw [Lib.decDigits,dec]
  by_cases h:n < 10
  ·rw [dif_pos h,if_pos h]
  ·rw [dif_neg h,if_neg h,ih (n / 10) (by omega)]
theorem below_grow (w:World) (k:Nat) (os:Array Obj):Below w.heap.size w (Go.Sort.grow (w.drewN k) os):=by
 refine ⟨rfl,rfl,rfl,?_,fun i hi=>?_⟩
 ·show w.heap.size≤(w.heap++os).size
  rw [Array.size_append];omega
 ·show (w.heap++os)[i]?=w.heap[i]?
  exact Array.getElem?_append_left hi
def segB (n:Nat):ByteArray:=⟨(seg n).toArray⟩
theorem segB_nm (n:Nat):(segB n).data.toList=seg n:=rfl
theorem dec_len (n:Nat):(dec n).length≤n+1:=by
 induction n using Nat.strongRecOn with
 | _ n ih =>
  rw [dec]
  split
  ·exact Nat.succ_le_succ (Nat.zero_le _)
  ·rename_i h
   have:=ih (n / 10) (by omega)
   rw [List.length_append,List.length_singleton]
   omega
theorem segB_size (n:Nat) (h:n≤4294967295):(segB n).size≤maxLen:=by
 have:=dec_len n
 show (seg n).toArray.size≤maxLen
 unfold seg maxLen
 simp
 omega
theorem str_app (n:Nat):(⟨#[115]⟩:ByteArray)++(⟨(dec n).toArray⟩:ByteArray)=segB n:=by
 show ByteArray.append _ _=_
 unfold segB seg
 apply ByteArray.ext
 simp
section
variable {w w1 w2:World}
theorem segmentFile_any (n:Nat) (hn:n≤4294967295) (hc:Can w n) :
  Calls Tryz.prog 44 #[.int .i64 (n:Int)] w fun e w'=>e = .returned (.string (segB n))∧Below w.heap.size w w':=by
 have c1:Calls Tryz.prog 70 #[.int .i64 (n:Int)] w fun e w'=>e = .returned (.string ⟨(dec n).toArray⟩)∧Below w.heap.size w w':=by
  rcases hc with hc|hc
  ·refine (Tryz.strconv_Itoa_small n hc w).mono ?_
   rintro e w' ⟨rfl,rfl⟩
   exact ⟨by rw [dec_eq],Below.refl _ _⟩
  ·refine (Tryz.strconv_Itoa (n:Int) (by omega) (by omega) w hc).mono ?_
   rintro e w' ⟨rfl,k,os,rfl⟩
   refine ⟨?_,below_grow _ _ _⟩
   unfold Lib.itoa
   rw [if_neg (by omega),Int.toNat_natCast,dec_eq]
 have HQ:=Lib.hid (str_app n)
 have hl:¬ 9223372036854775807 < 1+(dec n).length:=by have:=dec_len n;omega
 clear hc
 go_enter Tryz.func44,Tryz.ntmps44
 go_wp2_with fail
 refine c1.mono ?_
 rintro e w1 ⟨rfl,h1⟩
 go_wp2
 go_ret
 exact ⟨rfl,h1⟩
structure Nms (w:World) (g off c:Nat) (nums:List Nat):Prop where
 lt:g < w.heap.size
 fits:nums.length≤c
 small:c≤maxLen
 cell:∀ i (h:i < nums.length),w.cell? ⟨g,off+i,none⟩=some (.int .i64 (nums[i]:Int))
def ints (nums:List Nat):List Int:=nums.map Int.ofNat
theorem ints_length (nums:List Nat):(ints nums).length=nums.length:=List.length_map _
theorem ints_get {nums:List Nat} {j:Nat} (h:j < nums.length):(ints nums).getD j 0=(nums[j]:Int):=by
 unfold ints
 simp [List.getD,h]
theorem Nms.cells {g off c:Nat} {nums:List Nat} (h:Nms w g off c nums):∀ j,j < (ints nums).length→w.cell? ⟨g,off+j,none⟩=some (.int .i64 ((ints nums).getD j 0)):=by
 intro j hj
 rw [ints_length] at hj
 rw [ints_get hj,h.cell j hj]
theorem Nms.but {T:Nat→Prop} {g off c:Nat} {nums:List Nat} (h:Nms w g off c nums) (hb:But T w w1) (hT:¬ T g):Nms w1 g off c nums :=
 ⟨Nat.lt_of_lt_of_le h.lt hb.size,h.fits,h.small,fun i hi=>(hb.cell (p:=⟨g,off+i,none⟩) h.lt hT).trans (h.cell i hi)⟩
theorem Nms.below {g off c:Nat} {nums:List Nat} (h:Nms w g off c nums) (hb:Below w.heap.size w w1):Nms w1 g off c nums :=
 ⟨Nat.lt_of_lt_of_le h.lt hb.size,h.fits,h.small,fun i hi=>(hb.cell (p:=⟨g,off+i,none⟩) h.lt).trans (h.cell i hi)⟩
theorem Nms.take {g off c:Nat} {nums:List Nat} (h:Nms w g off c nums) (k:Nat):Nms w g off c (nums.take k) :=
 ⟨h.lt,by have:=h.fits;rw [List.length_take];omega,h.small,fun i hi=>by rw [List.getElem_take];exact h.cell i _⟩
theorem Nms.drop {g off c:Nat} {nums:List Nat} (h:Nms w g off c nums) (k:Nat) (hk:k≤nums.length):Nms w g (off+k) (c - k) (nums.drop k) :=
 ⟨h.lt,by have:=h.fits;rw [List.length_drop];omega,by have:=h.small;omega,fun i hi=>by rw [List.getElem_drop,Nat.add_assoc];exact h.cell (k+i) _⟩
def manV (g off n c base:Nat) (begun:Bool):Value := .agg #[.slice (some ⟨g,off,none⟩) n c,.int .i64 (base:Int),.bool begun]
theorem last_any {g off c:Nat} {nums:List Nat} (h:Nms w g off c nums) {i:Nat} (hi:nums.getLast?=some i) (base:Nat) (begun:Bool) :
  Calls Tryz.prog 30 #[manV g off nums.length c base begun] w fun e w'=>e = .returned (.int .i64 (i:Int))∧Below w.heap.size w w':=by
 have h0:0 < nums.length:=by
  rcases nums with _|⟨a,r⟩
  ·cases hi
  ·simp
 have hlast:nums[nums.length - 1]'(by omega)=i:=by
  rw [List.getLast?_eq_getElem?] at hi
  rw [List.getElem?_eq_getElem (by omega)] at hi
  injection hi
 have hc:w.cell? ⟨g,off+(nums.length - 1),none⟩=some (.int .i64 (i:Int)):=by rw [h.cell _ (by omega),hlast]
 have hs:=h.small
 unfold maxLen at hs
 have hf:=h.fits
 have hg:=h.lt
 obtain ⟨n,hn⟩:∃ n,n=nums.length:=⟨_,rfl⟩
 rw [← hn] at h0 hc hf ⊢
 clear h hi hlast hn
 have e1:((n:Int) - 1)=((n - 1:Nat):Int):=by omega
 unfold manV
 go_enter Tryz.func30,Tryz.ntmps30
 go_wp2
 go_ret
 refine ⟨rfl,?_⟩
 exact (Below.refl _ w).alloc (Nat.le_refl _) _
end
end Go.Proofs.YtbhoknnjilidnaaGreatDoor.Seg
end
section
namespace Go.Proofs.YtbhoknnjilidnaaGreatDoor.Seg
open Go.Proofs.YtbhoknnjilidnaaGreatDoor.Mem
open Go.Proofs.YtbhoknnjilidnaaGreatDoor.Disk (Nm File St Eff Has grow errV used lenOf run)
open Go.Proofs (encStr)
open Go.ChangeShapes Go.WideShapes Go.ChangeAt Go.RowKit
section
variable {w w1 w2:World} {p:Nat} {S:St} {F:Nat→Prop}
theorem count_ints (nums:List Nat) (b:Nat):((ints nums).take nums.length).countP (· < (b:Int))=nums.countP fun i=>decide (i < b):=by
 rw [List.take_of_length_le (by rw [ints_length];exact Nat.le_refl _)]
 unfold ints
 rw [List.countP_map]
 congr 1
 funext i
 simp
theorem rising_ints {nums:List Nat} (h:nums.Pairwise (· < ·)):((ints nums).take nums.length).Pairwise (· ≤ ·):=by
 rw [List.take_of_length_le (by rw [ints_length];exact Nat.le_refl _)]
 exact List.pairwise_map.2 (h.imp fun {a b} hab=>Int.ofNat_le.2 (Nat.le_of_lt hab))
theorem below_drewN (w:World) (q:Nat):Below w.heap.size w (w.drewN q):=⟨rfl,rfl,rfl,Nat.le_refl _,fun _ _=>rfl⟩
theorem ahead_any {g off c:Nat} {nums:List Nat} (h:Nms w g off c nums) (hln:nums.length≤1000000) (hr:nums.Pairwise (· < ·)) (base b:Nat) (begun:Bool) :
  Calls Tryz.prog 51 #[manV g off nums.length c base begun,.int .i64 (b:Int)] w fun e w'=>e = .returned (.int .i64 ((nums.countP fun i=>decide (i < b):Nat):Int))∧Below w.heap.size w w':=by
 have hb0:=(Below.refl _ w).alloc (Nat.le_refl _) (.cells #[.slice (some ⟨g,off,none⟩) nums.length c,.int .i64 (base:Int),.bool begun] 67)
 have hw:=h.below hb0
 have hs:=h.small
 have hf:=h.fits
 have hz:nums.length≤(ints nums).length:=Nat.le_of_eq (ints_length nums).symm
 have hbig:nums.length < 4611686018427387904:=by omega
 have hcl:=hw.cells
 have hri:=rising_ints hr
 have c1:=Tryz.slices_BinarySearch_int g off nums.length c (ints nums) (b:Int) _ hz hbig hcl hri
 rw [count_ints] at c1
 clear h hr hw hz hbig hcl hri
 obtain ⟨n,hn⟩:∃ n,n=nums.length:=⟨_,rfl⟩
 rw [← hn] at c1 hb0 ⊢
 obtain ⟨K,hK⟩:∃ K,K=nums.countP fun i=>decide (i < b):=⟨_,rfl⟩
 obtain ⟨T,hT⟩:∃ T,T=((ints nums).take n).contains (b:Int):=⟨_,rfl⟩
 rw [← hK,← hT] at c1
 rw [← hK]
 clear hK hT hn
 have HB:=Lib.hid hb0
 clear hf hb0
 unfold manV
 go_enter Tryz.func51,Tryz.ntmps51
 go_wp2_with fail
 refine c1.mono ?_
 rintro e w1 ⟨rfl,q,rfl⟩
 go_wp2
 go_ret
 refine ⟨rfl,?_⟩
 have h2:=HB.out.trans ((below_drewN _ q).mono HB.out.size)
 exact h2
theorem strs_contains {ns:List Nm} {base:Nat} {v:Value} (ho:w.ownsRow base 9 1 v ns.length (ns.map encStr)) (s:ByteArray) (hl:ns.length≤1000000) :
  Calls Tryz.prog 72 #[v,.string s] w fun e w'=>e = .returned (.bool (decide (s.data.toList ∈ ns)))∧w'=w:=by
 rcases ho.2 with ⟨rfl,h0⟩|⟨g,cap,cur,rfl,_,_,_,_,_,_⟩
 ·obtain rfl:=List.eq_nil_of_length_eq_zero h0
  exact Tryz.slices_Contains_string_empty none 0 s w
 ·have c1:=Tryz.slices_Contains_string g 0 ns.length cap (ns.map fun n=>(⟨n.toArray⟩:ByteArray)) s w (by rw [List.length_map];exact Nat.le_refl _) (by omega) (fun j hj=>by
   rw [List.length_map] at hj
   have h1:=ho.cellAt j (by omega)
   rw [Nat.zero_add,h1]
   simp [List.getD,hj])
  rw [List.take_of_length_le (by rw [List.length_map];exact Nat.le_refl _)] at c1
  refine c1.mono fun e w' ⟨h1,h2⟩=>⟨?_,h2⟩
  rw [h1]
  congr 2
  rw [Bool.eq_iff_iff,Lib.containsS_iff,decide_eq_true_eq,List.mem_map]
  constructor
  ·rintro ⟨n,hn,rfl⟩
   simpa using hn
  ·intro h
   exact ⟨_,h,by obtain ⟨d⟩:=s;simp⟩
theorem look_names {n:Nm} {α:Type} {l:List (Nm × α)}:n ∈ l.map (·.1) ↔ (Disk.look n l).isSome=true:=by
 induction l with
 | nil=>simp [Disk.look]
 | cons x r ih =>
  unfold Disk.look
  split
  ·rename_i h;simp [h]
  ·rename_i h
   rw [List.map_cons,List.mem_cons,ih]
   constructor
   ·rintro (h1|h1)
    ·exact absurd h1.symm h
    ·exact h1
   ·exact .inr
theorem isThere_any (h:Dsk w p S F) (s:ByteArray) :
  Calls Tryz.prog 48 #[.pointer (some ⟨p,0,none⟩),.string s] w fun e w'=>e = .returned (.bool (Disk.look s.data.toList S.files).isSome)∧Below w.heap.size w w':=by
 have c1:=dsk_list h
 have hm:=h.2.many
 have hl:(S.files.map (·.1)).length=S.files.length:=List.length_map _
 have c2:=fun (w1:World) (v:Value) (ho:w1.ownsRow w.heap.size 9 1 v (S.files.map (·.1)).length ((S.files.map (·.1)).map encStr))=>strs_contains ho s (by omega)
 rw [hl] at c2
 have HC:=Lib.hid c2
 have HB:=Lib.hid (show ∀ b,b=decide (s.data.toList ∈ S.files.map (·.1))→b=(Disk.look s.data.toList S.files).isSome from fun b hb=>by
  rw [hb,Bool.eq_iff_iff,decide_eq_true_eq];exact look_names)
 clear h hm hl c2
 go_enter Tryz.func48,Tryz.ntmps48
 go_wp2_with fail
 refine c1.mono ?_
 rintro e w1 ⟨v,rfl,ho,hb⟩
 go_wp2_with fail
 refine (HC.out _ _ ho).mono ?_
 rintro e w2 ⟨rfl,rfl⟩
 go_wp2
 go_ret
 exact ⟨by rw [← HB.out _ rfl];rfl,hb⟩
theorem deleteIfThere_any (h:Dsk w p S F) (s:ByteArray) (hs:s.size≤maxLen) :
  Calls Tryz.prog 47 #[.pointer (some ⟨p,0,none⟩),.string s] w (After w p F (run (if (Disk.look s.data.toList S.files).isSome then [.gone s.data.toList] else []) S)):=by
 have c1:=isThere_any h s
 have HD:=Lib.hid h
 cases hq:(Disk.look s.data.toList S.files).isSome
 ·rw [hq] at c1
  clear hq h
  go_enter Tryz.func47,Tryz.ntmps47
  go_wp2_with fail
  refine c1.mono ?_
  rintro e w1 ⟨rfl,hb⟩
  go_wp2
  go_ret
  exact ⟨rfl,Next.new HD.out hb⟩
 ·rw [hq] at c1
  rw [if_pos rfl,run_one]
  clear hq h
  go_enter Tryz.func47,Tryz.ntmps47
  go_wp2_with fail
  refine c1.mono ?_
  rintro e w1 ⟨rfl,hb⟩
  go_wp2_with fail
  refine (dsk_gone (Next.new HD.out hb).1 s hs).mono ?_
  rintro e w2 h2
  obtain ⟨rfl,h3⟩:=After.then_ (Next.new HD.out hb) h2
  go_wp2
  go_ret
  exact ⟨rfl,h3⟩
end
end Go.Proofs.YtbhoknnjilidnaaGreatDoor.Seg
end
section
namespace Go.Proofs.YtbhoknnjilidnaaGreatDoor.Seg
open Go.Proofs.YtbhoknnjilidnaaGreatDoor.Mem
open Go.Proofs.YtbhoknnjilidnaaGreatDoor.Disk (Nm File St Eff Has grow errV used lenOf run)
open Go.Proofs (encStr)
open Go.ChangeShapes Go.WideShapes Go.ChangeAt Go.RowKit
section
variable {w w1 w2:World} {p:Nat} {S:St} {F:Nat→Prop}
def intCells (nums:List Nat):List Value:=(ints nums).map (Value.int .i64)
theorem intCells_length (nums:List Nat):(intCells nums).length=nums.length:=by unfold intCells;rw [List.length_map,ints_length]
theorem intCells_get {nums:List Nat} {i:Nat} (h:i < nums.length):(intCells nums)[i]?=some (.int .i64 (nums[i]:Int)):=by
 unfold intCells ints
 simp [h]
theorem intCells_snoc (nums:List Nat) (n:Nat):intCells nums++[.int .i64 (n:Int)]=intCells (nums++[n]):=by simp [intCells,ints]
theorem nms_of_own {base n:Nat} {v:Value} {nums:List Nat} (h:w.ownsRow base 3 1 v n (intCells nums)) (h0:0 < nums.length) (hs:nums.length≤100000000) :
  ∃ g c,v = .slice (some ⟨g,0,none⟩) n c∧n=nums.length∧base≤g∧g < w.heap.size∧n≤c∧c≤maxLen∧∀ i (h:i < nums.length),w.cell? ⟨g,0+i,none⟩=some (.int .i64 (nums[i]:Int)):=by
 have hl:=h.1
 rw [intCells_length] at hl
 have hln:n=nums.length:=by omega
 rcases h.2 with ⟨h1,h2⟩|⟨g,cap,cur,rfl,h2,h3,h4,h5,h6,h7⟩
 ·omega
 ·refine ⟨g,cap,rfl,hln,h2,(h.lt g rfl).2,h4,h5,fun i hi=>?_⟩
  have:=h.cellAt i (show i < n * 1 by omega)
  rw [intCells_get hi] at this
  rw [Nat.zero_add,this]
theorem man_size:(Tryz.prog.info? 67).map (·.size)=some 3:=by kernel_rfl
theorem clone_any {g off c n:Nat} {nums:List Nat} (h:Nms w g off c nums) (hn:n=nums.length) (hl:nums.length≤1000000) :
  Calls Tryz.prog 46 #[.slice (some ⟨g,off,none⟩) n c] w fun e w'=>∃ v,e = .returned v∧w'.ownsRow w.heap.size 3 1 v n (intCells nums)∧Below w.heap.size w w':=by
 have hz:n≤(ints nums).length:=Nat.le_of_eq (hn.trans (ints_length nums).symm)
 have hb:n * 8≤140737488355328:=by omega
 refine (Tryz.slices_Clone_int g off n c (ints nums) w hz hb h.cells).mono ?_
 rintro e w' ⟨v,rfl,h1,_,h2⟩
 rw [List.take_of_length_le (by rw [ints_length,hn];exact Nat.le_refl _)] at h1
 exact ⟨v,rfl,h1,h2⟩
def NxS (w:World) (g off n c base:Nat) (begun:Bool) (nums:List Nat) (W:World):Prop :=
 Disk.Blk W w.heap.size 67 #[.slice (some ⟨g,off,none⟩) n c,.int .i64 (base:Int),.bool begun]∧Disk.Blk W (w.heap.size+1) 67 #[.slice none 0 0,.int .i64 0,.bool false]∧Nms W g off c nums∧Below w.heap.size w W∧w.heap.size+2≤W.heap.size
theorem NxS.below {g off n c base:Nat} {begun:Bool} {nums:List Nat} {W W1:World} (h:NxS w g off n c base begun nums W) (hb:Below W.heap.size W W1):NxS w g off n c base begun nums W1:=by
 obtain ⟨h1,h2,h3,h4,h5⟩:=h
 have hs:=hb.size
 refine ⟨h1.but (But.of_below hb) (by omega),h2.but (But.of_below hb) (by omega),h3.below hb,h4.trans (hb.mono (by omega)),by omega⟩
theorem NxS.start {g off n c base:Nat} {begun:Bool} {nums:List Nat} (h:Nms w g off c nums):NxS w g off n c base begun nums (((w.alloc (.cells #[.slice (some ⟨g,off,none⟩) n c,.int .i64 (base:Int),.bool begun] 67)).alloc (.cells #[.slice none 0 0,.int .i64 0,.bool false] 67)).drew):=by
 have b0:=Disk.Blk.new w 67 #[.slice (some ⟨g,off,none⟩) n c,.int .i64 (base:Int),.bool begun]
 have b1:=Disk.Blk.new (w.alloc (.cells #[.slice (some ⟨g,off,none⟩) n c,.int .i64 (base:Int),.bool begun] 67)) 67 #[.slice none 0 0,.int .i64 0,.bool false]
 have hb:=((Below.refl w.heap.size w).alloc (Nat.le_refl _) (.cells #[.slice (some ⟨g,off,none⟩) n c,.int .i64 (base:Int),.bool begun] 67)).alloc (by simp) (.cells #[.slice none 0 0,.int .i64 0,.bool false] 67)
 have b0':=b0.but ((But.refl (fun _=>False) _).alloc (.cells #[.slice none 0 0,.int .i64 0,.bool false] 67)) (fun h=>h)
 have e:(w.alloc (.cells #[.slice (some ⟨g,off,none⟩) n c,.int .i64 (base:Int),.bool begun] 67)).heap.size=w.heap.size+1:=by simp
 rw [e] at b1
 exact ⟨b0'.but (But.refl (fun _=>False) _).drew (fun h=>h),b1.but (But.refl (fun _=>False) _).drew (fun h=>h),(h.below hb).but (But.refl (fun _=>False) _).drew (fun h=>h),hb.drew,by show w.heap.size+2≤((w.alloc _).alloc _).heap.size;simp⟩
theorem NxS.but {g off n c base:Nat} {begun:Bool} {nums:List Nat} {W W1:World} {T:Nat→Prop} (h:NxS w g off n c base begun nums W) (hb:But T W W1) (hT:∀ k,T k→w.heap.size+2≤k) (hg:g < w.heap.size):NxS w g off n c base begun nums W1:=by
 obtain ⟨h1,h2,h3,h4,h5⟩:=h
 have hs:=hb.size
 have hB:Below (w.heap.size+2) W W1:=hb.below h5 hT
 refine ⟨h1.but hb (fun ht=>by have:=hT _ ht;omega),h2.but hb (fun ht=>by have:=hT _ ht;omega),h3.but hb (fun ht=>by have:=hT _ ht;omega),h4.trans (hB.mono (by omega)),by omega⟩
theorem withNext_any {g off c:Nat} {nums:List Nat} (h:Nms w g off c nums) {i:Nat} (hi:nums.getLast?=some i) (hi2:i < 4294967296) (hl:nums.length≤100000) (base:Nat) (begun:Bool) :
  Calls Tryz.prog 29 #[manV g off nums.length c base begun] w fun e w'=>∃ v,e = .returned (.agg #[v,.int .i64 (base:Int),.bool begun])∧w'.ownsRow w.heap.size 3 1 v (nums.length+1) (intCells (nums++[i+1]))∧Below w.heap.size w w':=by
 obtain ⟨i1,hi1,hy0,hy1,hy2⟩:=info_parts Torn.int_info
 have ew:IntKind.i64.wrap ((i:Int)+1)=(i:Int)+1:=by simp only [IntKind.wrap,IntKind.signed,IntKind.bits];simp;omega
 have hH0:=Lib.hid h
 have HI:=Lib.hid hi
 have HL:=Lib.hid hl
 have hz:nums.length≤(ints nums).length:=Nat.le_of_eq (ints_length nums).symm
 have HZ:=Lib.hid hz
 have hlt:=h.lt
 obtain ⟨n,hn⟩:∃ n,n=nums.length:=⟨_,rfl⟩
 have HN:=Lib.hid hn
 have hu:(.agg #[.slice (some ⟨g,off,none⟩) nums.length c,.int .i64 (base:Int),.bool begun]:Value)=manV g off n c base begun:=by rw [hn];rfl
 unfold manV at hu
 unfold manV
 rw [hu]
 clear h hi hl hz hn hu
 go_enter Tryz.func29,Tryz.ntmps29
 go_wp2_with fail
 refine Late.region_goes (NxS w g off n c base begun nums) (fun j=>j == 9) (by kernel_rfl) ?_ (fun hH=>?_)
 ·exact NxS.start hH0.out
 refine Late.tk 0 ?_ ?_ hH ?_;rotate_left 2
 refine Late.tk 3 ?_ ?_ hH ?_;rotate_left 2
 refine Late.tk 1 ?_ ?_ hH ?_;rotate_left 2
 rotate_left
 any_goals (intro wy hSw;(try dsimp only at hSw);obtain ⟨q1,q2,q3,q4,q5⟩:=hSw;have k0:wy.cell? ⟨w.heap.size,0,none⟩=some _:=q1.cell 0;have k1:wy.cell? ⟨w.heap.size,1,none⟩=some _:=q1.cell 1;have k2:wy.cell? ⟨w.heap.size,2,none⟩=some _:=q1.cell 2;go_simp;try (with_reducible rfl))
 try simp only [Act.put,List.setIfInBounds_toArray,List.set_cons_zero,List.set_cons_succ]
 refine Late.Goes.one (i:=2) (by kernel_rfl) (by simp only [List.getElem?_toArray,List.getElem?_cons_succ,List.getElem?_cons_zero];rfl) (fun K hK=>?_)
 clear hH
 go_simp
 go_at_call 46
 have HS0:=NxS.start (n:=n) (base:=base) (begun:=begun) hH0.out
 refine (clone_any HS0.2.2.1 HN.out (by have:=HL.out;omega)).mono ?_
 rintro e w1 ⟨v,rfl,ho,hb1⟩
 have HS1:=HS0.below hb1
 have HS:=Lib.hid HS1
 have hvb:∀ k,v.ownBlock=some k→w.heap.size+2≤k:=fun k hk=>Nat.le_trans HS0.2.2.2.2 (ho.lt k hk).1
 have HV:=Lib.hid hvb
 have HO:=Lib.hid (ownsRow_base_a ho HS0.2.2.2.2)
 clear HS0 hb1 ho HS1 hvb
 refine hK.out _ _ ?_ (fun hH=>?_)
 ·exact fun _=>HS.out
 clear hK K
 have hH:=hH rfl
 try simp only [Act.put,List.setIfInBounds_toArray,List.set_cons_zero,List.set_cons_succ]
 refine Late.Goes.one (i:=4) (by kernel_rfl) (by simp only [List.getElem?_toArray,List.getElem?_cons_succ,List.getElem?_cons_zero];rfl) (fun K hK=>?_)
 clear hH
 go_simp
 go_at_call 30
 have hla:=last_any HS.out.2.2.1 HI.out base begun
 rw [← HN.out] at hla
 unfold manV at hla
 refine hla.mono ?_
 rintro e w2 ⟨rfl,hb2⟩
 have HS2:=Lib.hid (HS.out.below hb2)
 have HO2:=Lib.hid (ownsRow_but HO.out (But.of_new hb2 (S:=fun _=>False)) (fun _ _ e=>e))
 clear hla hb2 HO HS
 refine hK.out _ _ ?_ (fun hH=>?_)
 ·exact fun _=>HS2.out
 clear hK K
 have hH:=hH rfl
 try simp only [Act.put,List.setIfInBounds_toArray,List.set_cons_zero,List.set_cons_succ]
 refine Late.tk 5 ?_ ?_ hH ?_;rotate_left 2
 rotate_left
 any_goals (intro wy hSw;(try dsimp only at hSw);obtain ⟨q1,q2,q3,q4,q5⟩:=hSw;have k0:wy.cell? ⟨w.heap.size,0,none⟩=some _:=q1.cell 0;have k1:wy.cell? ⟨w.heap.size,1,none⟩=some _:=q1.cell 1;have k2:wy.cell? ⟨w.heap.size,2,none⟩=some _:=q1.cell 2;go_simp;try (with_reducible rfl))
 try simp only [Act.put,List.setIfInBounds_toArray,List.set_cons_zero,List.set_cons_succ]
 refine Late.Goes.one (i:=6) (by kernel_rfl) (by simp only [List.getElem?_toArray,List.getElem?_cons_succ,List.getElem?_cons_zero];rfl) (fun K hK=>?_)
 clear hH
 go_simp
 have hbA:=(Below.refl w2.heap.size w2).alloc (Nat.le_refl _) (.cells #[.int .i64 ((i:Int)+1)] 3)
 have HS3:=Lib.hid (HS2.out.below hbA)
 have HO3:=Lib.hid (ownsRow_but HO2.out (But.of_new hbA (S:=fun _=>False)) (fun _ _ e=>e))
 clear hbA HS2 HO2
 refine hK.out _ _ ?_ (fun hH=>?_)
 ·exact fun _=>HS3.out
 clear hK K
 have hH:=hH rfl
 try simp only [Act.put,List.setIfInBounds_toArray,List.set_cons_zero,List.set_cons_succ]
 refine Late.Goes.one (i:=7) (by kernel_rfl) (by simp only [List.getElem?_toArray,List.getElem?_cons_succ,List.getElem?_cons_zero];rfl) (fun K hK=>?_)
 clear hH
 refine step_append_onto rfl (.tmp 5) (.tmp 9) _ rfl (w.heap.size+2) 3 i1 _ 1 8 Tryz.underlying60 hi1 hy0 hy1 hy2 rfl (by omega) v n (intCells nums) rfl HO3.out (.slice (some ⟨w2.heap.size,0,none⟩) 1 1) 1 [.int .i64 ((i:Int)+1)] rfl (sees_one _ _ _ _) (by intro u hu;rw [List.mem_singleton.1 hu];rfl) (by have:=HN.out;have:=HL.out;unfold maxLen;omega) (by have:=HN.out;have:=HL.out;omega) (by have:=HS3.out.2.2.2.2;exact this) ?_
 intro v3 w3 ho3 hon3
 have HS4:=Lib.hid (HS3.out.but hon3.but (fun k hk=>HV.out k hk.symm) hlt)
 have hsn:intCells nums++[.int .i64 ((i:Int)+1)]=intCells (nums++[i+1]):=intCells_snoc nums (i+1)
 rw [hsn] at ho3
 obtain ⟨g3,c3,rfl,hn3,hg3,hgl3,_,_⟩:=nms_of_own ho3 (by simp) (by have:=HL.out;simp;omega)
 have HO4:=Lib.hid (And.intro ho3 (And.intro hn3 (And.intro hg3 hgl3)))
 clear HS3 HO3 hon3 ho3 hsn HV hn3 hg3 hgl3
 refine hK.out _ _ ?_ (fun hH=>?_)
 ·exact fun _=>HS4.out
 clear hK K
 have hH:=hH rfl
 try simp only [Act.put,List.setIfInBounds_toArray,List.set_cons_zero,List.set_cons_succ]
 refine Late.tk 8 ?_ ?_ hH ?_;rotate_left 2
 rotate_left
 any_goals (intro wy hSw;(try dsimp only at hSw);obtain ⟨q1,q2,q3,q4,q5⟩:=hSw;have k0:wy.cell? ⟨w.heap.size,0,none⟩=some _:=q1.cell 0;have k1:wy.cell? ⟨w.heap.size,1,none⟩=some _:=q1.cell 1;have k2:wy.cell? ⟨w.heap.size,2,none⟩=some _:=q1.cell 2;go_simp;try (with_reducible rfl))
 try simp only [Act.put,List.setIfInBounds_toArray,List.set_cons_zero,List.set_cons_succ]
 refine Late.Goes.one (i:=9) (by kernel_rfl) (by simp only [List.getElem?_toArray,List.getElem?_cons_succ,List.getElem?_cons_zero];rfl) (fun K hK=>?_)
 clear hH
 obtain ⟨q1,q2,q3,q4,q5⟩:=HS4.out
 have k0:w3.frozen? ⟨w.heap.size,0,none⟩=false:=q1.frozen 0
 have k1:w3.cell? ⟨w.heap.size,0,none⟩=some _:=q1.cell 0
 clear q2 q3 q4 q5
 go_simp
 have HQ:=Lib.hid q1
 clear k0 k1 q1
 refine hK.out _ _ ?_ (fun _=>?_)
 ·exact fun h=>by cases h
 clear hK K
 try simp only [Act.put,List.setIfInBounds_toArray,List.set_cons_zero,List.set_cons_succ]
 refine Late.Goes.done (by kernel_rfl) ?_ _
 obtain ⟨_,q2,_,q4,q5⟩:=HS4.out
 have hb1:=HQ.out.set_ 0 (.slice (some ⟨g3,0,none⟩) (n+1) c3)
 have hbt:=Disk.but_set w3 w.heap.size 0 (.slice (some ⟨g3,0,none⟩) (n+1) c3)
 have hb2:=q2.but hbt (show ¬ (w.heap.size+1=w.heap.size) by omega)
 have hw5:Below w.heap.size w (w3.setCell ⟨w.heap.size,0,none⟩ (.slice (some ⟨g3,0,none⟩) (n+1) c3)):=q4.setCell (Nat.le_refl _) _
 have ho5:=ownsRow_but HO4.out.1 hbt (fun k hk hk2=>by have:=(HO4.out.1.lt k hk).1;omega)
 obtain ⟨W5,hW5⟩:∃ W,W=w3.setCell ⟨w.heap.size,0,none⟩ (.slice (some ⟨g3,0,none⟩) (n+1) c3):=⟨_,rfl⟩
 rw [← hW5] at hb1 hb2 hw5 ho5 ⊢
 have HB5:=Lib.hid (And.intro hw5 ho5)
 have m0:W5.cell? ⟨w.heap.size,0,none⟩=some _:=hb1.cell 0
 have m1:W5.cell? ⟨w.heap.size,1,none⟩=some _:=hb1.cell 1
 have m2:W5.cell? ⟨w.heap.size,2,none⟩=some _:=hb1.cell 2
 have HB6:=Lib.hid hb2
 have z0:W5.cell? ⟨w.heap.size+1,0,none⟩=some _:=hb2.cell 0
 have z1:W5.cell? ⟨w.heap.size+1,1,none⟩=some _:=hb2.cell 1
 have z2:W5.cell? ⟨w.heap.size+1,2,none⟩=some _:=hb2.cell 2
 have y0:W5.frozen? ⟨w.heap.size+1,0,none⟩=false:=hb2.frozen 0
 have y1:W5.frozen? ⟨w.heap.size+1,1,none⟩=false:=hb2.frozen 1
 have y2:W5.frozen? ⟨w.heap.size+1,2,none⟩=false:=hb2.frozen 2
 clear hW5 hb1 hb2 hw5 ho5 hbt q2 q4 q5 HQ HO4 HS4
 go_wp2
 have hF:=((HB6.out.set_ 0 (.slice (some ⟨g3,0,none⟩) (n+1) c3)).set_ 1 (.int .i64 (base:Int))).set_ 2 (.bool begun)
 refine bodyPost_ret (results_cell_row rfl _ _ (w.heap.size+1) 67 #[.slice (some ⟨g3,0,none⟩) (n+1) c3,.int .i64 (base:Int),.bool begun] (0,0) _ rfl hF Tryz.underlying67 rfl man_size) rfl ?_
 obtain ⟨hbw,hown⟩:=HB5.out
 rw [← HN.out]
 have hG:∀ (W:World) (k:Nat) (u:Value),W.ownsRow (w.heap.size+2) 3 1 (.slice (some ⟨g3,0,none⟩) (n+1) c3) (n+1) (intCells (nums++[i+1]))→(W.setCell ⟨w.heap.size+1,k,none⟩ u).ownsRow (w.heap.size+2) 3 1 (.slice (some ⟨g3,0,none⟩) (n+1) c3) (n+1) (intCells (nums++[i+1])):=fun W k u ho=>ownsRow_but ho (Disk.but_set W (w.heap.size+1) k u) (fun j hj hj2=>by have:=(ho.lt j hj).1;omega)
 exact ⟨_,rfl,ownsRow_base_a (hG _ _ _ (hG _ _ _ (hG _ _ _ hown))) (Nat.le_add_right _ 2),((hbw.setCell (Nat.le_succ _) _).setCell (Nat.le_succ _) _).setCell (Nat.le_succ _) _⟩
end
end Go.Proofs.YtbhoknnjilidnaaGreatDoor.Seg
end

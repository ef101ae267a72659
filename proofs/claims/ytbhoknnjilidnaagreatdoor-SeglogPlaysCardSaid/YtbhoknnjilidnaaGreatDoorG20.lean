/- A log in segments, on a disk by plain names: what its files are while it is open, what a disk is that such a log can be opened from, and that each effect of what is done with it leaves the one or the other. What is done with a log, effect by effect: behind all of them its files are as they should be; behind some of them, and a crash, the disk is one that the log, or the one that was to come, can be opened from. A log is opened, effect by effect; and that each effect may be done. -/
import Derived.Test.YtbhoknnjilidnaaGreatDoorG03
import Derived.Test.YtbhoknnjilidnaaGreatDoorG19
set_option linter.unusedVariables false
section
namespace Go.Proofs.YtbhoknnjilidnaaGreatDoor.Seg
open Go.Proofs.YtbhoknnjilidnaaGreatDoor.Mem
open Go.Proofs.YtbhoknnjilidnaaGreatDoor.Disk (Nm File Eff sees sees_cons sees_app trunc cutTo)
open Go.Proofs.YtbhoknnjilidnaaGreatDoor.Rec (Rcd Is okBody)
open Go.Proofs.YtbhoknnjilidnaaGreatDoor.Frame (frm bad_cut)
open Go.Proofs.YtbhoknnjilidnaaGreatDoor.Torn (one frames size one_bad body_pos frm_size frames_cons)
abbrev View:=Nm→Option File
def nM:Nm:=[109]
def nT:Nm:=[116]
def dec (n:Nat):Nm:=if n < 10 then [UInt8.ofNat (48+n)] else dec (n / 10)++[UInt8.ofNat (48+n % 10)]
termination_by n
decreasing_by omega
def seg (n:Nat):Nm:=115 :: dec n
def val (l:Nm):Nat:=l.foldl (fun a c=>a * 10+(c.toNat - 48)) 0
theorem digit (d:Nat) (h:d < 10):(UInt8.ofNat (48+d)).toNat - 48=d:=by
 have:(UInt8.ofNat (48+d)).toNat=(48+d) % 256:=by simp
 rw [this];omega
theorem val_dec (n:Nat):val (dec n)=n:=by
 induction n using Nat.strongRecOn with
 | _ n ih =>
  rw [dec]
  split
  ·rename_i h
   show 0 * 10+_=n
   rw [digit n h];omega
  ·rename_i h
   unfold val
   rw [List.foldl_append]
   show (val (dec (n / 10))) * 10+_=n
   rw [ih (n / 10) (by omega),digit _ (by omega)]
   omega
theorem seg_inj {n m:Nat} (h:seg n=seg m):n=m:=by
 unfold seg at h
 injection h with _ h
 rw [← val_dec n,h,val_dec]
theorem seg_m (n:Nat):seg n≠nM:=by
 intro h
 unfold seg nM at h
 injection h with h
 cases h
theorem seg_t (n:Nat):seg n≠nT:=by
 intro h
 unfold seg nT at h
 injection h with h
 cases h
theorem t_m:nT≠nM:=by decide
def manBody (nums:List Nat) (base:Nat) (begun:Bool):List Int :=
 Pack.put (4 * nums.length) 2++nums.flatMap (fun i=>Pack.put i 4)++Pack.put base 4++[if begun then 1 else 0]
def manFile (nums:List Nat) (base:Nat) (begun:Bool):List Int:=frm (manBody nums base begun)
def full (bs:List Int):File:=⟨bs,bs.length⟩
theorem trunc_full {kp:Int} (h:0≤kp) (bs:List Int):trunc kp (full bs)=full bs:=by
 have e:cutTo kp (full bs)=bs.length:=by
  unfold cutTo full
  simp only
  omega
 unfold trunc
 rw [e]
 show (⟨bs.take bs.length,bs.length⟩:File)=⟨bs,bs.length⟩
 rw [List.take_length]
theorem trunc_part {kp:Int} (h:0≤kp) (A Z:List Int):∃ n,n≤Z.length∧trunc kp ⟨A++Z,A.length⟩=full (A++Z.take n):=by
 refine ⟨(min kp (Z.length:Int)).toNat,by omega,?_⟩
 have e:cutTo kp ⟨A++Z,A.length⟩=A.length+(min kp (Z.length:Int)).toNat:=by
  unfold cutTo
  simp only [List.length_append]
  omega
 unfold trunc
 rw [e]
 have e2:(A++Z).take (A.length+(min kp (Z.length:Int)).toNat)=A++Z.take (min kp (Z.length:Int)).toNat:=by
  rw [List.take_append,List.take_of_length_le (Nat.le_add_right _ _),Nat.add_sub_cancel_left]
 simp only [e2]
 unfold full
 rw [List.length_append,List.length_take]
 congr 1
 omega
def kept (base:Nat) (nums:List Nat):List Nat:=if base=0 then nums else nums.filter fun i=>decide (i < base)
theorem kept_zero (nums:List Nat):kept 0 nums=nums:=if_pos rfl
theorem mem_kept {base i:Nat} {nums:List Nat} (h:i ∈ kept base nums):i ∈ nums:=by
 unfold kept at h
 split at h
 ·exact h
 ·exact (List.mem_filter.1 h).1
structure Nums (nums:List Nat):Prop where
 rising:nums.Pairwise (· < ·)
 pos:∀ i ∈ nums,1≤i
 some_:nums≠[]
def Low (nums:List Nat):Prop:=∀ i ∈ nums,i < 100
structure Inv (v:View) (nums:List Nat) (base:Nat) (begun:Bool) (fr:Nat→List (List Rcd)):Prop where
 man:v nM=some (full (manFile nums base begun))
 segs:∀ i ∈ nums,v (seg i)=some (full (frames (fr i)))
 only:∀ n,(v n).isSome=true→n=nM∨∃ i ∈ nums,n=seg i
structure Back (v:View) (nums:List Nat) (begun:Bool) (fr:Nat→List (List Rcd)):Prop where
 man:∃ all base,(Nums all∧Low all∧base < 100)∧nums=kept base all∧v nM=some (full (manFile all base begun))
 segs:∀ i ∈ nums,∃ tail,v (seg i)=some (full (frames (fr i)++tail))∧one tail=none∧(nums.getLast?≠some i→tail=[])
theorem Back.cong {v v':View} {nums:List Nat} {begun:Bool} {fr fr':Nat→List (List Rcd)} (h:Back v nums begun fr) (hm:v' nM=v nM) (hs:∀ i ∈ nums,v' (seg i)=v (seg i)∧fr' i=fr i):Back v' nums begun fr':=by
 refine ⟨?_,fun i hi=>?_⟩
 ·obtain ⟨all,base,h1,h2,h3⟩:=h.man
  exact ⟨all,base,h1,h2,hm.trans h3⟩
 ·obtain ⟨tail,h1,h2,h3⟩:=h.segs i hi
  obtain ⟨e1,e2⟩:=hs i hi
  exact ⟨tail,by rw [e1,h1,e2],h2,h3⟩
def cutAll (kp:Int) (v:View):View:=fun n=>(v n).map (trunc kp)
theorem Back.crash {v:View} {nums:List Nat} {begun:Bool} {fr:Nat→List (List Rcd)} (h:Back v nums begun fr) {kp:Int} (hk:0≤kp):Back (cutAll kp v) nums begun fr:=by
 refine h.cong ?_ (fun i hi=>⟨?_,rfl⟩)
 ·obtain ⟨all,base,h1,h2,h3⟩:=h.man
  unfold cutAll
  rw [h3,Option.map_some,trunc_full hk]
 ·obtain ⟨tail,h1,h2,h3⟩:=h.segs i hi
  unfold cutAll
  rw [h1,Option.map_some,trunc_full hk]
theorem Inv.back {v:View} {nums:List Nat} {base:Nat} {begun:Bool} {fr:Nat→List (List Rcd)} (h:Inv v nums base begun fr) (hn:Nums nums∧Low nums∧base < 100):Back v (kept base nums) begun fr :=
 ⟨⟨nums,base,hn,rfl,h.man⟩,fun i hi=>⟨[],by rw [List.append_nil];exact h.segs i (mem_kept hi),Torn.one_nil,fun _=>rfl⟩⟩
def onlyAt (x:Eff) (n:Nm):Prop:=x = .new n∨(∃ b,x = .add n b)∨x = .syn n∨x = .gone n
theorem see_other {x:Eff} {n k:Nm} (h:onlyAt x n) (hk:k≠n) (v:View):x.see v k=v k:=by
 rcases h with rfl|⟨b,rfl⟩|rfl|rfl <;> exact if_neg hk
def Off (nums:List Nat) (n:Nm):Prop:=n≠nM∧∀ i ∈ nums,n≠seg i
theorem off_t (nums:List Nat):Off nums nT:=⟨t_m,fun i _ e=>seg_t i e.symm⟩
theorem sees_off {xs:List Eff} {nums:List Nat} (h:∀ x ∈ xs,∃ n,onlyAt x n∧Off nums n) (v:View):sees xs v nM=v nM∧∀ i ∈ nums,sees xs v (seg i)=v (seg i):=by
 induction xs generalizing v with
 | nil=>exact ⟨rfl,fun _ _=>rfl⟩
 | cons x r ih =>
  obtain ⟨n,h1,h2,h3⟩:=h x List.mem_cons_self
  obtain ⟨g1,g2⟩:=ih (fun y hy=>h y (List.mem_cons_of_mem _ hy)) (x.see v)
  rw [sees_cons]
  exact ⟨by rw [g1,see_other h1 h2.symm],fun i hi=>by rw [g2 i hi,see_other h1 (h3 i hi).symm]⟩
theorem Back.off {v:View} {nums:List Nat} {begun:Bool} {fr:Nat→List (List Rcd)} (h:Back v nums begun fr) {xs:List Eff} (hx:∀ x ∈ xs,∃ n,onlyAt x n∧Off nums n):Back (sees xs v) nums begun fr:=by
 obtain ⟨h1,h2⟩:=sees_off hx v
 exact h.cong h1 (fun i hi=>⟨h2 i hi,rfl⟩)
theorem Back.offs {v:View} {nums:List Nat} {begun:Bool} {fr:Nat→List (List Rcd)} (h:Back v nums begun fr) {xs:List Eff} (hx:∀ x ∈ xs,∃ n,onlyAt x n∧Off nums n) (j:Nat):Back (sees (xs.take j) v) nums begun fr :=
 h.off (fun x hxm=>hx x (List.mem_of_mem_take hxm))
def swA (B:List Int):List Eff:=[.new nT,.add nT B,.syn nT]
def sw (B:List Int):List Eff:=swA B++[.move nT nM]
theorem swA_off (nums:List Nat) (B:List Int):∀ x ∈ swA B,∃ n,onlyAt x n∧Off nums n:=by
 intro x hx
 unfold swA at hx
 refine ⟨nT,?_,off_t nums⟩
 simp only [List.mem_cons,List.not_mem_nil,or_false] at hx
 rcases hx with rfl|rfl|rfl
 ·exact .inl rfl
 ·exact .inr (.inl ⟨B,rfl⟩)
 ·exact .inr (.inr (.inl rfl))
theorem swA_other (B:List Int) (v:View) {n:Nm} (hn:n≠nT):sees (swA B) v n=v n:=by
 unfold swA
 simp only [sees_cons]
 show (Eff.syn nT).see _ n=_
 rw [see_other (x := .syn nT) (.inr (.inr (.inl rfl))) hn,see_other (x := .add nT B) (.inr (.inl ⟨B,rfl⟩)) hn,see_other (x := .new nT) (.inl rfl) hn]
theorem swA_t (B:List Int) (v:View):sees (swA B) v nT=some (full B):=by
 unfold swA
 simp only [sees_cons]
 show (Eff.syn nT).see ((Eff.add nT B).see ((Eff.new nT).see v)) nT=some (full B)
 simp [Eff.see,full]
theorem sw_all (B:List Int) (v:View) (n:Nm):sees (sw B) v n=if n=nM then some (full B) else if n=nT then none else v n:=by
 unfold sw
 rw [sees_app]
 show (if n=nM then sees (swA B) v nT else if n=nT then none else sees (swA B) v n)=_
 rw [swA_t]
 by_cases h1:n=nM
 ·rw [if_pos h1,if_pos h1]
 ·rw [if_neg h1,if_neg h1]
  by_cases h2:n=nT
  ·rw [if_pos h2,if_pos h2]
  ·rw [if_neg h2,if_neg h2,swA_other B v h2]
theorem sw_length (B:List Int):(sw B).length=4:=rfl
theorem sw_take (B:List Int) (j:Nat) (hj:j < 4):(sw B).take j=(swA B).take j:=by
 unfold sw
 rw [List.take_append_of_le_length (by show j≤3;omega)]
theorem sw_seg (B:List Int) (v:View) (i:Nat):sees (sw B) v (seg i)=v (seg i):=by rw [sw_all,if_neg (seg_m i),if_neg (seg_t i)]
theorem sw_m (B:List Int) (v:View):sees (sw B) v nM=some (full B):=by rw [sw_all,if_pos rfl]
theorem one_cut {l:List Rcd} (h:okBody l) (k:Nat) (hk:k < size l):one ((frm (Rec.body l)).take k)=none:=by
 refine one_bad ?_
 rw [bad_cut (body_pos h) h.2.2 k hk]
 omega
theorem frames_add (ls:List (List Rcd)) (l:List Rcd):frames (ls++[l])=frames ls++frm (Rec.body l):=by
 unfold frames
 rw [List.flatMap_append]
 simp
end Go.Proofs.YtbhoknnjilidnaaGreatDoor.Seg
end
section
namespace Go.Proofs.YtbhoknnjilidnaaGreatDoor.Seg
open Go.Proofs.YtbhoknnjilidnaaGreatDoor.Mem
open Go.Proofs.YtbhoknnjilidnaaGreatDoor.Disk (Nm File Eff sees sees_cons sees_app trunc cutTo)
open Go.Proofs.YtbhoknnjilidnaaGreatDoor.Rec (Rcd Is okBody)
open Go.Proofs.YtbhoknnjilidnaaGreatDoor.Frame (frm)
open Go.Proofs.YtbhoknnjilidnaaGreatDoor.Torn (one frames size frm_size)
section
variable {v:View} {nums:List Nat} {base:Nat} {begun:Bool} {fr:Nat→List (List Rcd)}
theorem take_two {P:View→Prop} {a b:List Eff} (ha:∀ j,j < a.length→P (sees (a.take j) v)) (hb:∀ j,j < b.length→P (sees (b.take j) (sees a v))) (j:Nat) (hj:j < (a++b).length):P (sees ((a++b).take j) v):=by
 rw [List.length_append] at hj
 rw [List.take_append]
 by_cases h:j < a.length
 ·rw [show j - a.length=0 by omega,List.take_zero,List.append_nil]
  exact ha j h
 ·rw [List.take_of_length_le (by omega),sees_app]
  exact hb _ (by omega)
def bump (fr:Nat→List (List Rcd)) (i:Nat) (l:List Rcd):Nat→List (List Rcd):=fun k=>if k=i then fr k++[l] else fr k
theorem bump_same (fr:Nat→List (List Rcd)) (i:Nat) (l:List Rcd):bump fr i l i=fr i++[l]:=if_pos rfl
theorem bump_other (fr:Nat→List (List Rcd)) {i k:Nat} (l:List Rcd) (h:k≠i):bump fr i l k=fr k:=if_neg h
def apA (i:Nat) (f:List Int):List Eff:=[.add (seg i) f,.syn (seg i)]
theorem ap_see (h:Inv v nums base begun fr) {i:Nat} (hi:i ∈ nums) (f:List Int) (n:Nm):sees (apA i f) v n=if n=seg i then some (full (frames (fr i)++f)) else v n:=by
 unfold apA
 simp only [sees_cons]
 show (Eff.syn (seg i)).see ((Eff.add (seg i) f).see v) n=_
 by_cases hn:n=seg i
 ·rw [if_pos hn,hn]
  simp [Eff.see,h.segs i hi,full]
 ·rw [if_neg hn]
  simp [Eff.see,hn]
theorem add_inv (h:Inv v nums base begun fr) {i:Nat} (hi:i ∈ nums) (l:List Rcd):Inv (sees (apA i (frm (Rec.body l))) v) nums base begun (bump fr i l):=by
 refine ⟨?_,fun k hk=>?_,fun n hn=>?_⟩
 ·rw [ap_see h hi,if_neg (seg_m i).symm];exact h.man
 ·rw [ap_see h hi]
  by_cases hki:k=i
  ·subst hki
   rw [if_pos rfl,bump_same,frames_add]
  ·rw [if_neg (fun e=>hki (seg_inj e)),bump_other fr l hki]
   exact h.segs k hk
 ·rw [ap_see h hi] at hn
  by_cases hni:n=seg i
  ·exact .inr ⟨i,hi,hni⟩
  ·rw [if_neg hni] at hn
   exact h.only n hn
theorem last_mem {i:Nat} (h:nums.getLast?=some i):i ∈ nums:=List.mem_of_getLast? h
theorem kept_base {i:Nat} (hb:base=0∨base≤i) (h0:base≠0):i ∉ kept base nums:=by
 intro h
 unfold kept at h
 rw [if_neg h0] at h
 have:=(List.mem_filter.1 h).2
 simp at this
 omega
theorem add_crash (h:Inv v nums base begun fr) (hN:Nums nums∧Low nums∧base < 100) {i:Nat} (hi:nums.getLast?=some i) (hb:base=0∨base≤i) {l:List Rcd} (hl:okBody l) {kp:Int} (hk:0≤kp) (j:Nat) (hj:j < 2) :
  Back (cutAll kp (sees ((apA i (frm (Rec.body l))).take j) v)) (kept base nums) begun fr∨Back (cutAll kp (sees ((apA i (frm (Rec.body l))).take j) v)) (kept base nums) begun (bump fr i l):=by
 have hmem:=last_mem hi
 rcases (show j=0∨j=1 by omega) with rfl|rfl
 ·exact .inl ((h.back hN).crash hk)
 ·have hv:∀ n,sees ((apA i (frm (Rec.body l))).take 1) v n=if n=seg i then some ⟨frames (fr i)++frm (Rec.body l),(frames (fr i)).length⟩ else v n:=by
   intro n
   show (Eff.add (seg i) (frm (Rec.body l))).see v n=_
   by_cases hn:n=seg i
   ·rw [if_pos hn,hn]
    simp [Eff.see,h.segs i hmem,full]
   ·rw [if_neg hn]
    simp [Eff.see,hn]
  obtain ⟨n,hn1,hn2⟩:=trunc_part hk (frames (fr i)) (frm (Rec.body l))
  have hw:∀ m,cutAll kp (sees ((apA i (frm (Rec.body l))).take 1) v) m=if m=seg i then some (full (frames (fr i)++(frm (Rec.body l)).take n)) else cutAll kp v m:=by
   intro m
   unfold cutAll
   rw [hv]
   by_cases hm:m=seg i
   ·rw [if_pos hm,if_pos hm,Option.map_some,hn2]
   ·rw [if_neg hm,if_neg hm]
  have hB:=(h.back hN).crash hk
  have hM:cutAll kp (sees ((apA i (frm (Rec.body l))).take 1) v) nM=cutAll kp v nM:=by rw [hw,if_neg (seg_m i).symm]
  by_cases h0:base=0
  ·subst h0
   rw [kept_zero] at hB ⊢
   by_cases hns:n < size l
   ·refine .inl ⟨?_,fun k hkm=>?_⟩
    ·obtain ⟨all,b,q1,q2,q3⟩:=hB.man
     exact ⟨all,b,q1,q2,hM.trans q3⟩
    ·by_cases hki:k=i
     ·subst hki
      refine ⟨(frm (Rec.body l)).take n,by rw [hw,if_pos rfl],one_cut hl n hns,fun hne=>absurd hi hne⟩
     ·obtain ⟨tail,q1,q2,q3⟩:=hB.segs k hkm
      exact ⟨tail,by rw [hw,if_neg (fun e=>hki (seg_inj e))];exact q1,q2,q3⟩
   ·rw [frm_size] at hn1
    have hfn:(frm (Rec.body l)).take n=frm (Rec.body l):=List.take_of_length_le (by rw [frm_size];omega)
    refine .inr ⟨?_,fun k hkm=>?_⟩
    ·obtain ⟨all,b,q1,q2,q3⟩:=hB.man
     exact ⟨all,b,q1,q2,hM.trans q3⟩
    ·by_cases hki:k=i
     ·subst hki
      refine ⟨[],by rw [hw,if_pos rfl,hfn,bump_same,frames_add,List.append_nil],Torn.one_nil,fun _=>rfl⟩
     ·obtain ⟨tail,q1,q2,q3⟩:=hB.segs k hkm
      rw [bump_other fr l hki]
      exact ⟨tail,by rw [hw,if_neg (fun e=>hki (seg_inj e))];exact q1,q2,q3⟩
  ·refine .inl (hB.cong hM (fun k hkm=>⟨?_,rfl⟩))
   have hki:k≠i:=fun e=>kept_base hb h0 (e ▸ hkm)
   rw [hw,if_neg (fun e=>hki (seg_inj e))]
def rotA (next:Nat) (B:List Int):List Eff := .new (seg next) :: sw B
theorem rot_see (next:Nat) (B:List Int) (n:Nm):sees (rotA next B) v n=if n=nM then some (full B) else if n=nT then none else if n=seg next then some (full []) else v n:=by
 unfold rotA
 rw [sees_cons,sw_all]
 rfl
theorem rot_inv (h:Inv v nums base begun fr) {next:Nat} (hn:∀ i ∈ nums,i≠next) (hf:fr next=[]) (base':Nat) (begun':Bool):Inv (sees (rotA next (manFile (nums++[next]) base' begun')) v) (nums++[next]) base' begun' fr:=by
 refine ⟨by rw [rot_see,if_pos rfl],fun i hi=>?_,fun n hs=>?_⟩
 ·rw [rot_see,if_neg (seg_m i),if_neg (seg_t i)]
  rcases List.mem_append.1 hi with hi|hi
  ·rw [if_neg (fun e=>hn i hi (seg_inj e))];exact h.segs i hi
  ·rw [List.mem_singleton.1 hi,if_pos rfl,hf];rfl
 ·rw [rot_see] at hs
  by_cases h1:n=nM
  ·exact .inl h1
  ·rw [if_neg h1] at hs
   by_cases h2:n=nT
   ·rw [if_pos h2] at hs;cases hs
   ·rw [if_neg h2] at hs
    by_cases h3:n=seg next
    ·exact .inr ⟨next,List.mem_append_right _ (List.mem_singleton.2 rfl),h3⟩
    ·rw [if_neg h3] at hs
     rcases h.only n hs with h4|⟨i,hi,h4⟩
     ·exact .inl h4
     ·exact .inr ⟨i,List.mem_append_left _ hi,h4⟩
theorem off_seg {next:Nat} (hn:∀ i ∈ nums,i≠next):Off nums (seg next):=⟨seg_m next,fun i hi e=>hn i hi (seg_inj e).symm⟩
theorem Off.kept {n:Nm} (h:Off nums n) (base:Nat):Off (kept base nums) n:=⟨h.1,fun i hi=>h.2 i (mem_kept hi)⟩
theorem rot_crash (h:Inv v nums base begun fr) (hN:Nums nums∧Low nums∧base < 100) {next:Nat} (hn:∀ i ∈ nums,i≠next) (B:List Int) {kp:Int} (hk:0≤kp) (j:Nat) (hj:j < 5):Back (cutAll kp (sees ((rotA next B).take j) v)) (kept base nums) begun fr:=by
 have e:(rotA next B).take j=(.new (seg next) :: swA B).take j:=by
  have e1:rotA next B=(.new (seg next) :: swA B)++[.move nT nM]:=rfl
  rw [e1,List.take_append_of_le_length (by show j≤4;omega)]
 rw [e]
 refine ((h.back hN).offs (fun x hx=>?_) j).crash hk
 rcases List.mem_cons.1 hx with rfl|hx
 ·exact ⟨seg next,.inl rfl,(off_seg hn).kept base⟩
 ·exact swA_off _ B x hx
def goneA (ns:List Nat):List Eff:=ns.map fun i => .gone (seg i)
theorem gone_see (ns:List Nat) (v:View) (n:Nm):sees (goneA ns) v n=if (∃ i ∈ ns,n=seg i) then none else v n:=by
 induction ns generalizing v with
 | nil=>simp [goneA,sees]
 | cons i r ih =>
  show sees (goneA r) ((Eff.gone (seg i)).see v) n=_
  rw [ih]
  by_cases h1:∃ k ∈ r,n=seg k
  ·rw [if_pos h1,if_pos (by obtain ⟨k,hk,e⟩:=h1;exact ⟨k,List.mem_cons_of_mem _ hk,e⟩)]
  ·rw [if_neg h1]
   by_cases h2:n=seg i
   ·rw [if_pos ⟨i,List.mem_cons_self,h2⟩]
    exact if_pos h2
   ·rw [if_neg (by
     rintro ⟨k,hk,e⟩
     rcases List.mem_cons.1 hk with rfl|hk
     ·exact h2 e
     ·exact h1 ⟨k,hk,e⟩)]
    exact if_neg h2
def from_ (base:Nat) (nums:List Nat):List Nat:=nums.filter fun i=>decide (base≤i)
def below (base:Nat) (nums:List Nat):List Nat:=nums.filter fun i=>decide (i < base)
theorem mem_from {i:Nat}:i ∈ from_ base nums ↔ i ∈ nums∧base≤i:=by simp [from_]
theorem mem_below {i:Nat}:i ∈ below base nums ↔ i ∈ nums∧i < base:=by simp [below]
theorem from_nums (hN:Nums nums) {i:Nat} (hi:i ∈ nums) (hb:base≤i):Nums (from_ base nums) :=
 ⟨hN.rising.filter _,fun k hk=>hN.pos k (mem_from.1 hk).1,fun e=>by have:=mem_from.2 ⟨hi,hb⟩;rw [e] at this;cases this⟩
def adA (nums:List Nat) (base:Nat):List Eff:=sw (manFile (from_ base nums) 0 false)++goneA (below base nums)
theorem ad_see (nums:List Nat) (base:Nat) (n:Nm):sees (adA nums base) v n=if (∃ i ∈ below base nums,n=seg i) then none else if n=nM then some (full (manFile (from_ base nums) 0 false)) else if n=nT then none else v n:=by
 unfold adA
 rw [sees_app,gone_see,sw_all]
theorem adopt_inv (h:Inv v nums base begun fr):Inv (sees (adA nums base) v) (from_ base nums) 0 false fr:=by
 refine ⟨?_,fun i hi=>?_,fun n hs=>?_⟩
 ·rw [ad_see,if_neg (by rintro ⟨i,_,e⟩;exact seg_m i e.symm),if_pos rfl]
 ·obtain ⟨h1,h2⟩:=mem_from.1 hi
  rw [ad_see,if_neg (by
   rintro ⟨k,hk,e⟩
   have:=(mem_below.1 hk).2
   rw [← seg_inj e] at this
   omega),if_neg (seg_m i),if_neg (seg_t i)]
  exact h.segs i h1
 ·rw [ad_see] at hs
  by_cases h1:∃ i ∈ below base nums,n=seg i
  ·rw [if_pos h1] at hs;cases hs
  ·rw [if_neg h1] at hs
   by_cases h2:n=nM
   ·exact .inl h2
   ·rw [if_neg h2] at hs
    by_cases h3:n=nT
    ·rw [if_pos h3] at hs;cases hs
    ·rw [if_neg h3] at hs
     rcases h.only n hs with h4|⟨i,hi,h4⟩
     ·exact .inl h4
     ·refine .inr ⟨i,mem_from.2 ⟨hi,?_⟩,h4⟩
      rcases Nat.lt_or_ge i base with h5|h5
      ·exact absurd ⟨i,mem_below.2 ⟨hi,h5⟩,h4⟩ h1
      ·exact h5
theorem gone_off {ns ms:List Nat} (h:∀ i ∈ ns,∀ k ∈ ms,k≠i):∀ x ∈ goneA ns,∃ n,onlyAt x n∧Off ms n:=by
 intro x hx
 obtain ⟨i,hi,rfl⟩:=List.mem_map.1 hx
 exact ⟨seg i,.inr (.inr (.inr rfl)),off_seg (fun k hk=>h i hi k hk)⟩
theorem adopt_crash (h:Inv v nums base begun fr) (hN:Nums nums∧Low nums∧base < 100) (hb:∃ i ∈ nums,base≤i) {kp:Int} (hk:0≤kp) (j:Nat) (hj:j < (adA nums base).length) :
  Back (cutAll kp (sees ((adA nums base).take j) v)) (kept base nums) begun fr∨Back (cutAll kp (sees ((adA nums base).take j) v)) (from_ base nums) false fr:=by
 refine take_two (P:=fun u=>Back (cutAll kp u) (kept base nums) begun fr∨Back (cutAll kp u) (from_ base nums) false fr) (fun j hj=>?_) (fun j hj=>?_) j hj
 ·rw [sw_take _ j (by rw [sw_length] at hj;exact hj)]
  exact .inl (((h.back hN).offs (swA_off _ _) j).crash hk)
 ·obtain ⟨i,hi,hbi⟩:=hb
  have hB:Back (sees (sw (manFile (from_ base nums) 0 false)) v) (from_ base nums) false fr :=
   ⟨⟨from_ base nums,0,⟨from_nums hN.1 hi hbi,fun k hkm=>hN.2.1 k (mem_from.1 hkm).1,by omega⟩,(kept_zero _).symm,sw_m _ _⟩,fun k hkm=>⟨[],by rw [List.append_nil,sw_seg];exact h.segs k (mem_from.1 hkm).1,Torn.one_nil,fun _=>rfl⟩⟩
  refine .inr ((hB.offs (gone_off (fun a ha b hb e=>?_)) j).crash hk)
  have h1:=(mem_below.1 ha).2
  have h2:=(mem_from.1 hb).2
  omega
end
end Go.Proofs.YtbhoknnjilidnaaGreatDoor.Seg
end
section
namespace Go.Proofs.YtbhoknnjilidnaaGreatDoor.Seg
open Go.Proofs.YtbhoknnjilidnaaGreatDoor.Mem
open Go.Proofs.YtbhoknnjilidnaaGreatDoor.Disk (Nm File Eff Fs Apart sees sees_cons sees_app trunc cutTo ons Mays tot ins upd del moved look_on)
open Go.Proofs.YtbhoknnjilidnaaGreatDoor.Rec (Rcd Is okBody)
open Go.Proofs.YtbhoknnjilidnaaGreatDoor.Frame (frm)
open Go.Proofs.YtbhoknnjilidnaaGreatDoor.Torn (one frames size frm_size)
section
variable {v:View} {nums:List Nat} {base:Nat} {begun:Bool} {fr:Nat→List (List Rcd)}
def goneN (ns:List Nm):List Eff:=ns.map fun n => .gone n
theorem goneN_see (ns:List Nm) (v:View) (n:Nm):sees (goneN ns) v n=if n ∈ ns then none else v n:=by
 induction ns generalizing v with
 | nil=>simp [goneN,sees]
 | cons i r ih =>
  show sees (goneN r) ((Eff.gone i).see v) n=_
  rw [ih]
  by_cases h1:n ∈ r
  ·rw [if_pos h1,if_pos (List.mem_cons_of_mem _ h1)]
  ·rw [if_neg h1]
   by_cases h2:n=i
   ·rw [if_pos (by rw [h2];exact List.mem_cons_self)]
    exact if_pos h2
   ·rw [if_neg (by simp [h1,h2])]
    exact if_neg h2
def opT (has:Bool):List Eff:=if has then [.gone nT] else []
def opM (base:Nat) (nums:List Nat) (begun:Bool):List Eff:=if base=0 then [] else sw (manFile nums 0 begun)
def opC (torn:Bool) (i n:Nat):List Eff:=if torn then [.short (seg i) n,.syn (seg i)] else []
def opA (has:Bool) (base:Nat) (nums:List Nat) (begun:Bool) (dels:List Nm) (torn:Bool) (i n:Nat):List Eff:=opT has++(opM base nums begun++(goneN dels++opC torn i n))
theorem opT_see (v:View) (n:Nm):sees (opT (v nT).isSome) v n=if n=nT then none else v n:=by
 unfold opT
 cases h:v nT with
 | none =>
  simp only [Option.isSome_none]
  show v n=_
  by_cases hn:n=nT
  ·rw [if_pos hn,hn,h]
  ·rw [if_neg hn]
 | some f=>rfl
theorem opM_see {base:Nat} (hm:base=0→v nM=some (full (manFile nums 0 begun))) (ht:v nT=none) (n:Nm):sees (opM base nums begun) v n=if n=nM then some (full (manFile nums 0 begun)) else v n:=by
 unfold opM
 by_cases h0:base=0
 ·rw [if_pos h0]
  show v n=_
  by_cases hn:n=nM
  ·rw [if_pos hn,hn,hm h0]
  ·rw [if_neg hn]
 ·rw [if_neg h0,sw_all]
  by_cases hn:n=nM
  ·rw [if_pos hn,if_pos hn]
  ·rw [if_neg hn,if_neg hn]
   by_cases h2:n=nT
   ·rw [if_pos h2,h2,ht]
   ·rw [if_neg h2]
theorem short_full (A Z:List Int):(⟨(full (A++Z)).bytes.take A.length,min (full (A++Z)).synced A.length⟩:File)=full A:=by
 have e1:(A++Z).take A.length=A:=List.take_left
 have e2:min (A++Z).length A.length=A.length:=by rw [List.length_append];omega
 show (⟨(A++Z).take A.length,min (A++Z).length A.length⟩:File)=_
 rw [e1,e2]
 rfl
theorem opC_see {i:Nat} {A Z:List Int} {torn:Bool} (h:v (seg i)=some (full (A++Z))) (ht:torn=false→Z=[]) (n:Nm):sees (opC torn i A.length) v n=if n=seg i then some (full A) else v n:=by
 unfold opC
 cases torn
 ·have hz:=ht rfl
  subst hz
  show v n=_
  by_cases hn:n=seg i
  ·rw [if_pos hn,hn,h,List.append_nil]
  ·rw [if_neg hn]
 ·show (Eff.syn (seg i)).see ((Eff.short (seg i) A.length).see v) n=_
  by_cases hn:n=seg i
  ·rw [if_pos hn,hn]
   simp only [Eff.see,if_true,h,Option.map_some,short_full]
   rfl
  ·rw [if_neg hn]
   simp [Eff.see,hn]
theorem opT_back (h:Back v nums begun fr) (j:Nat):Back (sees ((opT (v nT).isSome).take j) v) nums begun fr:=by
 refine h.offs (fun x hx=>?_) j
 unfold opT at hx
 split at hx
 ·rw [List.mem_singleton.1 hx]
  exact ⟨nT,.inr (.inr (.inr rfl)),off_t _⟩
 ·cases hx
theorem opM_back {base:Nat} (hN:Nums nums∧Low nums) (h:Back v nums begun fr) (j:Nat):Back (sees ((opM base nums begun).take j) v) nums begun fr:=by
 unfold opM
 by_cases h0:base=0
 ·rw [if_pos h0,List.take_nil];exact h
 ·rw [if_neg h0]
  by_cases hj:j < 4
  ·rw [sw_take _ j hj]
   exact h.offs (swA_off _ _) j
  ·rw [List.take_of_length_le (by rw [sw_length];omega)]
   refine ⟨⟨nums,0,⟨hN.1,hN.2,by omega⟩,(kept_zero _).symm,sw_m _ _⟩,fun i hi=>?_⟩
   rw [sw_seg]
   exact h.segs i hi
theorem goneN_back (h:Back v nums begun fr) {dels:List Nm} (hd:∀ n ∈ dels,Off nums n) (j:Nat):Back (sees ((goneN dels).take j) v) nums begun fr:=by
 refine h.offs (fun x hx=>?_) j
 obtain ⟨n,hn,rfl⟩:=List.mem_map.1 hx
 exact ⟨n,.inr (.inr (.inr rfl)),hd n hn⟩
theorem Back.cut_ {v':View} (h:Back v nums begun fr) (hm:v' nM=v nM) {i:Nat} (hi:v' (seg i)=some (full (frames (fr i)))) (ho:∀ k ∈ nums,k≠i→v' (seg k)=v (seg k)):Back v' nums begun fr:=by
 refine ⟨?_,fun k hk=>?_⟩
 ·obtain ⟨all,b,q1,q2,q3⟩:=h.man
  exact ⟨all,b,q1,q2,hm.trans q3⟩
 ·by_cases hki:k=i
  ·subst hki
   exact ⟨[],by rw [List.append_nil];exact hi,Torn.one_nil,fun _=>rfl⟩
  ·obtain ⟨tail,q1,q2,q3⟩:=h.segs k hk
   exact ⟨tail,by rw [ho k hk hki];exact q1,q2,q3⟩
theorem opC_back (h:Back v nums begun fr) {i:Nat} (hi:i ∈ nums) {tail:List Int} (ht:v (seg i)=some (full (frames (fr i)++tail))) (torn:Bool) (j:Nat):Back (sees ((opC torn i (frames (fr i)).length).take j) v) nums begun fr:=by
 unfold opC
 cases torn
 ·simp only [Bool.false_eq_true,if_false,List.take_nil]
  exact h
 ·have h1:∀ n,(Eff.short (seg i) (frames (fr i)).length).see v n=if n=seg i then some (full (frames (fr i))) else v n:=by
   intro n
   show (if n=seg i then _ else _)=_
   by_cases hn:n=seg i
   ·rw [if_pos hn,if_pos hn,hn,ht,Option.map_some,short_full]
   ·rw [if_neg hn,if_neg hn]
  have h2:∀ n,(Eff.syn (seg i)).see ((Eff.short (seg i) (frames (fr i)).length).see v) n=if n=seg i then some (full (frames (fr i))) else v n:=by
   intro n
   show (if n=seg i then _ else _)=_
   by_cases hn:n=seg i
   ·rw [if_pos hn,if_pos hn,h1,if_pos hn];rfl
   ·rw [if_neg hn,if_neg hn,h1,if_neg hn]
  simp only [if_true]
  rcases j with _|_|j
  ·exact h
  ·show Back ((Eff.short (seg i) (frames (fr i)).length).see v) nums begun fr
   exact h.cut_ (by rw [h1,if_neg (seg_m i).symm]) (by rw [h1,if_pos rfl]) (fun k _ hk=>by rw [h1,if_neg (fun e=>hk (seg_inj e))])
  ·rw [List.take_of_length_le (by simp)]
   show Back ((Eff.syn (seg i)).see ((Eff.short (seg i) (frames (fr i)).length).see v)) nums begun fr
   exact h.cut_ (by rw [h2,if_neg (seg_m i).symm]) (by rw [h2,if_pos rfl]) (fun k _ hk=>by rw [h2,if_neg (fun e=>hk (seg_inj e))])
theorem open_inv (hN:Nums nums) (h:Back v nums begun fr) {base i:Nat} (hb:base=0→v nM=some (full (manFile nums 0 begun))) (hi:nums.getLast?=some i) {tail:List Int} (ht:v (seg i)=some (full (frames (fr i)++tail)))
  {dels:List Nm} (hd:∀ n ∈ dels,Off nums n) (hall:∀ n,(v n).isSome=true→n=nM∨n=nT∨(∃ k ∈ nums,n=seg k)∨n ∈ dels) {torn:Bool} (htn:torn=false→tail=[]) :
  Inv (sees (opA (v nT).isSome base nums begun dels torn i (frames (fr i)).length) v) nums 0 begun fr:=by
 have hmem:=last_mem hi
 have eT:=opT_see v
 have eM:=opM_see (v:=sees (opT (v nT).isSome) v) (nums:=nums) (begun:=begun) (base:=base) (fun h0=>by rw [eT,if_neg t_m.symm];exact hb h0) (by rw [eT,if_pos rfl])
 have eG:=fun n=>goneN_see dels (sees (opM base nums begun) (sees (opT (v nT).isSome) v)) n
 have e3:sees (goneN dels) (sees (opM base nums begun) (sees (opT (v nT).isSome) v)) (seg i)=some (full (frames (fr i)++tail)):=by
  rw [eG,if_neg (fun hm=>(hd _ hm).2 i hmem rfl),eM,if_neg (seg_m i),eT,if_neg (seg_t i)];exact ht
 have eC:=fun n=>opC_see (torn:=torn) e3 htn n
 have eA:∀ n,sees (opA (v nT).isSome base nums begun dels torn i (frames (fr i)).length) v n=if n=seg i then some (full (frames (fr i))) else if n ∈ dels then none else if n=nM then some (full (manFile nums 0 begun)) else if n=nT then none else v n:=by
  intro n
  unfold opA
  rw [sees_app,sees_app,sees_app,eC,eG,eM,eT]
 refine ⟨?_,fun k hk=>?_,fun n hs=>?_⟩
 ·rw [eA,if_neg (seg_m i).symm,if_neg (fun hm=>(hd _ hm).1 rfl),if_pos rfl]
 ·by_cases hki:k=i
  ·subst hki
   rw [eA,if_pos rfl]
  ·rw [eA,if_neg (fun e=>hki (seg_inj e)),if_neg (fun hm=>(hd _ hm).2 k hk rfl),if_neg (seg_m k),if_neg (seg_t k)]
   obtain ⟨t2,q1,q2,q3⟩:=h.segs k hk
   rw [q3 (fun e=>by rw [hi] at e;injection e with e;exact hki e.symm),List.append_nil] at q1
   exact q1
 ·rw [eA] at hs
  by_cases h1:n=seg i
  ·exact .inr ⟨i,hmem,h1⟩
  ·rw [if_neg h1] at hs
   by_cases h2:n ∈ dels
   ·rw [if_pos h2] at hs;cases hs
   ·rw [if_neg h2] at hs
    by_cases h3:n=nM
    ·exact .inl h3
    ·rw [if_neg h3] at hs
     by_cases h4:n=nT
     ·rw [if_pos h4] at hs;cases hs
     ·rw [if_neg h4] at hs
      rcases hall n hs with h|h|h|h
      ·exact absurd h h3
      ·exact absurd h h4
      ·exact .inr h
      ·exact absurd h h2
end
def mayV:Eff→View→Prop
 | .new n,v=>v n=none
 | .add n _,v=>(v n).isSome=true
 | .syn n,v=>(v n).isSome=true
 | .short n k,v=>∃ f,v n=some f∧k≤f.bytes.length
 | .move n _,v=>(v n).isSome=true
 | .gone n,v=>(v n).isSome=true
def MaysV:List Eff→View→Prop
 | [],_=>True
 | x :: r,v=>mayV x v∧MaysV r (x.see v)
def new1:Eff→Nat | .new _=>1|_=>0
def add1:Eff→Nat | .add _ b=>b.length|_=>0
def news (xs:List Eff):Nat:=(xs.map new1).sum
def adds (xs:List Eff):Nat:=(xs.map add1).sum
theorem maysV_app {a b:List Eff} {v:View}:MaysV (a++b) v ↔ MaysV a v∧MaysV b (sees a v):=by
 induction a generalizing v with
 | nil=>simp [MaysV,sees]
 | cons x r ih=>simp [MaysV,sees_cons,ih,and_assoc]
theorem grown1 {x:Eff} {l:Fs} (ha:Apart l) (h:mayV x (fun k=>Disk.look k l)):(x.on l).length≤l.length+new1 x∧tot (x.on l)≤tot l+add1 x:=by
 have fst {n:Nm} (h:(Disk.look n l).isSome=true):∃ f,Disk.look n l=some f:=Option.isSome_iff_exists.1 h
 cases x with
 | new n =>
  refine ⟨by show (ins n _ l).length≤_;rw [Disk.length_ins];exact Nat.le_refl _,?_⟩
  show Disk.total _ (ins n _ l)≤_
  rw [Disk.total_ins]
  show 0+_≤_
  unfold tot;omega
 | add n b =>
  obtain ⟨f,hf⟩:=fst h
  refine ⟨by show (upd n (fun f:File=>(⟨f.bytes++b,f.synced⟩:File)) l).length≤l.length+0;rw [Disk.length_upd];exact Nat.le_refl _,?_⟩
  have e:=Disk.total_upd (f:=fun f:File=>f.bytes.length) (h:=fun f=>⟨f.bytes++b,f.synced⟩) ha hf
  simp only [List.length_append] at e
  show Disk.total (fun f:File=>f.bytes.length) (upd n (fun f:File=>(⟨f.bytes++b,f.synced⟩:File)) l)≤tot l+b.length
  unfold tot;omega
 | syn n =>
  obtain ⟨f,hf⟩:=fst h
  refine ⟨by show (upd n (fun f:File=>(⟨f.bytes,f.bytes.length⟩:File)) l).length≤l.length+0;rw [Disk.length_upd];exact Nat.le_refl _,?_⟩
  have e:=Disk.total_upd (f:=fun f:File=>f.bytes.length) (h:=fun f=>⟨f.bytes,f.bytes.length⟩) ha hf
  simp only at e
  show Disk.total (fun f:File=>f.bytes.length) (upd n (fun f:File=>(⟨f.bytes,f.bytes.length⟩:File)) l)≤tot l+0
  unfold tot;omega
 | short n k =>
  obtain ⟨f,hf,_⟩:=h
  refine ⟨by show (upd n (fun f:File=>(⟨f.bytes.take k,min f.synced k⟩:File)) l).length≤l.length+0;rw [Disk.length_upd];exact Nat.le_refl _,?_⟩
  have e:=Disk.total_upd (f:=fun f:File=>f.bytes.length) (h:=fun f=>⟨f.bytes.take k,min f.synced k⟩) ha hf
  simp only [List.length_take] at e
  show Disk.total (fun f:File=>f.bytes.length) (upd n (fun f:File=>(⟨f.bytes.take k,min f.synced k⟩:File)) l)≤tot l+0
  unfold tot;omega
 | move n m =>
  obtain ⟨f,hf⟩:=fst h
  have e1:=Disk.length_del ha hf
  have e2:(del m (del n l)).length≤(del n l).length:=List.length_filter_le _ _
  have e3:=Disk.total_del (f:=fun f:File=>f.bytes.length) ha hf
  have e4:=Disk.total_del_le (fun f:File=>f.bytes.length) m (del n l)
  show (moved n m l).length≤l.length+0∧Disk.total _ (moved n m l)≤tot l+0
  unfold moved
  rw [hf]
  simp only
  rw [Disk.length_ins,Disk.total_ins]
  unfold tot
  omega
 | gone n =>
  refine ⟨?_,?_⟩
  ·show (del n l).length≤l.length+0
   exact List.length_filter_le _ _
  ·show Disk.total _ (del n l)≤tot l+0
   exact Disk.total_del_le _ n l
theorem mays_of {cap:Int} {xs:List Eff} {l:Fs} (ha:Apart l) (h:MaysV xs (fun k=>Disk.look k l)) (hn:l.length+news xs < 1000) (hc:((tot l+adds xs:Nat):Int)≤cap):Mays cap xs l∧(ons xs l).length≤l.length+news xs∧tot (ons xs l)≤tot l+adds xs:=by
 induction xs generalizing l with
 | nil=>exact ⟨trivial,Nat.le_add_right _ _,Nat.le_add_right _ _⟩
 | cons x r ih =>
  obtain ⟨h1,h2⟩:=h
  have en:news (x :: r)=new1 x+news r:=by simp [news]
  have ea:adds (x :: r)=add1 x+adds r:=by simp [adds]
  rw [en] at hn ⊢
  rw [ea] at hc ⊢
  have hm:x.may cap l:=by
   cases x with
   | new n=>exact ⟨h1,by have:new1 (.new n)=1:=rfl;omega⟩
   | add n b=>exact ⟨h1,by have:add1 (.add n b)=b.length:=rfl;omega⟩
   | syn n=>exact h1
   | short n k=>exact h1
   | move n m=>exact h1
   | gone n=>exact h1
  obtain ⟨g1,g2⟩:=grown1 ha h1
  have hv:=look_on hm ha
  rw [← hv] at h2
  obtain ⟨q1,q2,q3⟩:=ih (Disk.Eff.apart hm ha) h2 (by omega) (by omega)
  rw [Disk.ons_cons]
  exact ⟨⟨hm,q1⟩,by omega,by omega⟩
end Go.Proofs.YtbhoknnjilidnaaGreatDoor.Seg
end

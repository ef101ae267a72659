/- What Append, Begin, Adopt and Open leave: done, or a disk that is down, from which the log can be opened. A log is opened on a disk that may have a plan, effect by effect: what comes of each part, as plain lists. -/
import Derived.Test.YtbhoknnjilidnaaGreatDoorG40
set_option linter.unusedVariables false
section
namespace Go.Proofs.YtbhoknnjilidnaaGreatDoor.Seg
open Go.Proofs.YtbhoknnjilidnaaGreatDoor.Mem
open Go.Proofs.YtbhoknnjilidnaaGreatDoor.Disk (Nm File St Eff Fs Apart sees sees_cons sees_app run tot PlanOk mapv trunc)
open Go.Proofs.YtbhoknnjilidnaaGreatDoor.Rec (Rcd Is okBody)
open Go.Proofs.YtbhoknnjilidnaaGreatDoor.Frame (frm)
open Go.Proofs.YtbhoknnjilidnaaGreatDoor.Torn (one frames size frm_size)
structure Lv (S:St) (cap:Int) (nums:List Nat) (base:Nat) (begun:Bool) (fr:Nat→List (List Rcd)) (i:Nat):Prop where
 lg:Lg S cap nums base begun fr
 last:nums.getLast?=some i
 low:i≤98
 base_:base=0∨base≤i
 left:kept base nums≠[]
 next:∀ k,i < k→fr k=[]
section
variable {S:St} {cap:Int} {nums:List Nat} {base:Nat} {begun:Bool} {fr:Nat→List (List Rcd)} {i:Nat}
theorem max_last {nums:List Nat} {i:Nat} (hr:nums.Pairwise (· < ·)) (hi:nums.getLast?=some i):∀ k ∈ nums,k≤i:=by
 have hne:nums≠[]:=by intro e;rw [e] at hi;cases hi
 have e:=List.dropLast_concat_getLast hne
 have hl:nums.getLast hne=i:=by rw [List.getLast?_eq_some_getLast hne] at hi;exact Option.some.inj hi
 rw [hl] at e
 intro k hk
 rw [← e] at hk hr
 rcases List.mem_append.1 hk with h1|h1
 ·have:=(List.pairwise_append.1 hr).2.2 k h1 i (List.mem_singleton.2 rfl);omega
 ·rw [List.mem_singleton.1 h1];exact Nat.le_refl _
theorem low_from (nums:List Nat):∀ a,nums.Pairwise (· < ·)→(∀ k ∈ nums,a≤k∧k < 100)→nums.length≤100 - a:=by
 induction nums with
 | nil=>intro a _ _;exact Nat.zero_le _
 | cons x r ih =>
  intro a hr hl
  have hx:=hl x List.mem_cons_self
  have h1:=ih (x+1) (List.pairwise_cons.1 hr).2 (fun k hk=>⟨(List.pairwise_cons.1 hr).1 k hk,(hl k (List.mem_cons_of_mem _ hk)).2⟩)
  rw [List.length_cons];omega
theorem low_length {nums:List Nat} (hr:nums.Pairwise (· < ·)) (hl:Low nums):nums.length≤100:=low_from nums 0 hr (fun k hk=>⟨Nat.zero_le _,hl k hk⟩)
theorem Lv.lows (h:Lv S cap nums base begun fr i):Low nums:=fun k hk=>by have:=max_last h.lg.num.rising h.last k hk;have:=h.low;omega
theorem Lv.base100 (h:Lv S cap nums base begun fr i):base < 100:=by have:=h.base_;have:=h.low;omega
theorem Lv.tri (h:Lv S cap nums base begun fr i):Nums nums∧Low nums∧base < 100:=⟨h.lg.num,h.lows,h.base100⟩
theorem Lv.many (h:Lv S cap nums base begun fr i):nums.length≤100:=low_length h.lg.num.rising h.lows
theorem inv_known {v:View} {nums:List Nat} {base:Nat} {begun:Bool} {fr:Nat→List (List Rcd)} (h:Inv v nums base begun fr) (hl:Low nums):Known v:=fun n hn=>by
 rcases h.only n hn with h1|⟨k,hk,h1⟩
 ·exact .inl h1
 ·exact .inr (.inr ⟨k,hl k hk,h1⟩)
theorem kept_nums (hN:Nums nums) (base:Nat) (h:kept base nums≠[]):Nums (kept base nums):=by
 refine ⟨?_,fun k hk=>hN.pos k (mem_kept hk),h⟩
 unfold kept
 split
 ·exact hN.rising
 ·exact hN.rising.filter _
theorem Lv.bk (h:Lv S cap nums base begun fr i):Bk S cap (kept base nums) begun fr :=
 ⟨h.lg.up,h.lg.inv.back h.tri,kept_nums h.lg.num base h.left,fun k hk=>h.lg.ok k (mem_kept hk),inv_known h.lg.inv h.lows⟩
def Fell (T:St) (cap:Int) (N:Nat) (begun:Bool) (Ls:List (List Rcd)):Prop:=T.down=true∧∃ nums fr,Bk (Disk.opened T) cap nums begun fr∧(∀ k ∈ nums,k≤N)∧all nums fr=Ls
theorem fell_of {N:Nat} {T:St} {nums:List Nat} {begun:Bool} {fr:Nat→List (List Rcd)} (hd:T.down=true) (hu:Up cap (Disk.opened T)) (hb:Back (vw T.files) nums begun fr) (hn:Nums nums) (ho:∀ i ∈ nums,∀ l ∈ fr i,okBody l∧∀ r ∈ l,Is r) (hk:Known (vw T.files)) (hN:∀ k ∈ nums,k≤N):Fell T cap N begun (all nums fr) :=
 ⟨hd,nums,fr,⟨hu,hb,hn,ho,hk⟩,hN,rfl⟩
theorem bump_ok {ns:List Nat} {k:Nat} {l:List Rcd} (h:∀ j ∈ ns,∀ m ∈ fr j,okBody m∧∀ r ∈ m,Is r) (hl:okBody l) (his:∀ r ∈ l,Is r):∀ j ∈ ns,∀ m ∈ bump fr k l j,okBody m∧∀ r ∈ m,Is r:=fun j hj m hm=>by
 unfold bump at hm
 split at hm
 ·rcases List.mem_append.1 hm with h1|h1
  ·exact h j hj m h1
  ·rw [List.mem_singleton.1 h1];exact ⟨hl,his⟩
 ·exact h j hj m hm
theorem kept_app (base:Nat) (nums:List Nat) {k:Nat} (h:base=0∨base≤k):kept base (nums++[k])=if base=0 then nums++[k] else kept base nums:=by
 by_cases h0:base=0
 ·rw [if_pos h0,h0,kept_zero]
 ·rw [if_neg h0]
  unfold kept
  rw [if_neg h0,if_neg h0,List.filter_append]
  have:¬ (k < base):=by omega
  simp [this]
def apFell (T:St) (cap:Int) (N:Nat) (begun:Bool) (base:Nat) (nums:List Nat) (fr:Nat→List (List Rcd)) (l:List Rcd):Prop :=
 Fell T cap N begun (all (kept base nums) fr)∨(base=0∧Fell T cap N begun (all nums fr++[l]))
theorem append_here (h:Lv S cap nums base begun fr i) {l:List Rcd} (hl:okBody l) (his:∀ r ∈ l,Is r) (hc:((tot S.files+(40+size l)+4 * nums.length:Nat):Int)≤cap) :
  (∃ T,run (apA i (frm (Rec.body l))) S=(0,T)∧Lv T cap nums base begun (bump fr i l) i∧tot T.files≤tot S.files+(40+size l)+4 * nums.length) ∨
  (∃ T,run (apA i (frm (Rec.body l))) S=(15,T)∧S.plan≠none∧tot T.files≤tot S.files+(40+size l)+4 * nums.length∧apFell T cap (i+1) begun base nums fr l):=by
 have hmem:=last_mem h.last
 have hfl:(frm (Rec.body l)).length=size l:=frm_size l
 have hlen:=h.lg.inv.files h.lg.up.apart
 have hmany:=h.many
 have hk:=inv_known h.lg.inv h.lows
 rcases deed h.lg.up (ap_mays h.lg.inv hmem (frm (Rec.body l))) (by rw [news_ap];omega) (by rw [adds_ap];omega) (P:=fun v=>Inv v nums base begun (bump fr i l)) (add_inv h.lg.inv hmem l)
  (Q:=fun v=>Known v∧(Back v (kept base nums) begun fr∨Back v (kept base nums) begun (bump fr i l))) (fun j hj kp hkp=>⟨(hk.sees (fun x hx=>known_ap _ _ x (List.mem_of_mem_take hx))).cut kp,add_crash h.lg.inv h.tri h.last h.base_ hl hkp j hj⟩)
  with ⟨T,h1,h2,h3,h4,h5,h6⟩|⟨T,h1,h2,h3,h4,⟨h5,h5'⟩,h6,h7⟩
 ·rw [adds_ap] at h6
  exact .inl ⟨T,h1,⟨⟨h2,h3,h.lg.num,bump_ok h.lg.ok hl his⟩,h.last,h.low,h.base_,h.left,fun k hk=>by rw [bump_other fr l (by omega)];exact h.next k hk⟩,by omega⟩
 ·rw [adds_ap] at h7
  have hmx:=max_last h.lg.num.rising h.last
  have hN0:∀ k ∈ kept base nums,k≤i+1:=fun k hk=>by have:=hmx k (mem_kept hk);omega
  refine .inr ⟨T,h1,h2,by omega,?_⟩
  rcases h5' with hb|hb
  ·exact .inl (fell_of h3 h4 hb (kept_nums h.lg.num base h.left) (fun k hk=>h.lg.ok k (mem_kept hk)) h5 hN0)
  ·by_cases h0:base=0
   ·refine .inr ⟨h0,?_⟩
    subst h0
    rw [kept_zero] at hb
    rw [← all_bump h.lg.num.rising h.last]
    exact fell_of h3 h4 hb h.lg.num (bump_ok h.lg.ok hl his) h5 (fun k hk=>by have:=hmx k hk;omega)
   ·refine .inl ?_
    rw [all_cong (nums:=kept base nums) (fr:=fr) (fr':=bump fr i l) (fun k hk=>(bump_other fr l (fun e=>kept_base h.base_ h0 (e ▸ hk))).symm)]
    exact fell_of h3 h4 hb (kept_nums h.lg.num base h.left) (bump_ok (fun k hk=>h.lg.ok k (mem_kept hk)) hl his) h5 hN0
theorem append_there (h:Lv S cap nums base begun fr i) (hi:i+1≤98) {l:List Rcd} (hl:okBody l) (his:∀ r ∈ l,Is r) (hc:((tot S.files+(40+size l)+4 * nums.length:Nat):Int)≤cap) :
  (∃ T,run (rotA (i+1) (manFile (nums++[i+1]) base begun)++apA (i+1) (frm (Rec.body l))) S=(0,T)∧Lv T cap (nums++[i+1]) base begun (bump fr (i+1) l) (i+1)∧tot T.files≤tot S.files+(40+size l)+4 * nums.length) ∨
  (∃ T,run (rotA (i+1) (manFile (nums++[i+1]) base begun)++apA (i+1) (frm (Rec.body l))) S=(15,T)∧S.plan≠none∧tot T.files≤tot S.files+(40+size l)+4 * nums.length∧apFell T cap (i+1) begun base nums fr l):=by
 have hfl:(frm (Rec.body l)).length=size l:=frm_size l
 have hlen:=h.lg.inv.files h.lg.up.apart
 have hmany:=h.many
 have hk:=inv_known h.lg.inv h.lows
 have hmax:=max_last h.lg.num.rising h.last
 have hf:=h.next (i+1) (by omega)
 have hne:∀ k ∈ nums,k≠i+1:=fun k hk e=>by have:=hmax k hk;omega
 have hi1:i+1 ∈ nums++[i+1]:=List.mem_append_right _ (List.mem_singleton.2 rfl)
 have hr:=rot_inv h.lg.inv hne hf base begun
 have hN1:Nums (nums++[i+1]):=by
  refine ⟨List.pairwise_append.2 ⟨h.lg.num.rising,List.pairwise_singleton _ _,fun a ha b hb=>?_⟩,fun j hj=>?_,by simp⟩
  ·rw [List.mem_singleton.1 hb]
   have:=hmax a ha;omega
  ·rcases List.mem_append.1 hj with h7|h7
   ·exact h.lg.num.pos j h7
   ·rw [List.mem_singleton.1 h7];omega
 have hL1:Low (nums++[i+1]):=fun j hj=>by
  rcases List.mem_append.1 hj with h7|h7
  ·exact h.lows j h7
  ·rw [List.mem_singleton.1 h7];omega
 have hok1:∀ j ∈ nums++[i+1],∀ m ∈ fr j,okBody m∧∀ r ∈ m,Is r:=fun j hj m hm=>by
  rcases List.mem_append.1 hj with h7|h7
  ·exact h.lg.ok j h7 m hm
  ·rw [List.mem_singleton.1 h7,hf] at hm;cases hm
 have hb1:base=0∨base≤i+1:=by have:=h.base_;omega
 have hlast1:(nums++[i+1]).getLast?=some (i+1):=by simp
 have hleft1:kept base (nums++[i+1])≠[]:=by
  rw [kept_app base nums hb1]
  split
  ·simp
  ·exact h.left
 have hmay:MaysV (rotA (i+1) (manFile (nums++[i+1]) base begun)++apA (i+1) (frm (Rec.body l))) (vw S.files):=maysV_app.2 ⟨rot_mays h.lg.inv hne _,ap_mays hr hi1 _⟩
 have hnw:news (rotA (i+1) (manFile (nums++[i+1]) base begun)++apA (i+1) (frm (Rec.body l)))=2:=by rw [news_app,news_rot,news_ap]
 have had:adds (rotA (i+1) (manFile (nums++[i+1]) base begun)++apA (i+1) (frm (Rec.body l)))=15+4 * (nums.length+1)+(frm (Rec.body l)).length:=by rw [adds_app,adds_rot,adds_ap,man_length,List.length_append,List.length_singleton]
 have hkx:∀ x ∈ rotA (i+1) (manFile (nums++[i+1]) base begun)++apA (i+1) (frm (Rec.body l)),knownE x:=known_app (known_rot (by omega) _) (known_ap _ _)
 rcases deed h.lg.up hmay (by rw [hnw];omega) (by rw [had];omega) (P:=fun v=>Inv v (nums++[i+1]) base begun (bump fr (i+1) l)) (by rw [Disk.sees_app];exact add_inv hr hi1 l)
  (Q:=fun v=>Known v∧(Back v (kept base nums) begun fr∨Back v (kept base (nums++[i+1])) begun fr∨Back v (kept base (nums++[i+1])) begun (bump fr (i+1) l)))
  (fun j hj kp hkp=>⟨(hk.sees (fun x hx=>hkx x (List.mem_of_mem_take hx))).cut kp,
   take_two (P:=fun u=>Back (cutAll kp u) (kept base nums) begun fr∨Back (cutAll kp u) (kept base (nums++[i+1])) begun fr∨Back (cutAll kp u) (kept base (nums++[i+1])) begun (bump fr (i+1) l))
    (fun j hj => .inl (rot_crash h.lg.inv h.tri hne _ hkp j hj)) (fun j hj => .inr (add_crash hr ⟨hN1,hL1,h.base100⟩ hlast1 hb1 hl hkp j hj)) j hj⟩)
  with ⟨T,h1,h2,h3,h4,h5,h6⟩|⟨T,h1,h2,h3,h4,⟨h5,h5'⟩,h6,h7⟩
 ·rw [had] at h6
  exact .inl ⟨T,h1,⟨⟨h2,h3,hN1,bump_ok hok1 hl his⟩,hlast1,hi,hb1,hleft1,fun k hk=>by rw [bump_other fr l (by omega)];exact h.next k (by omega)⟩,by omega⟩
 ·rw [had] at h7
  refine .inr ⟨T,h1,h2,by omega,?_⟩
  have hN0:∀ k ∈ kept base nums,k≤i+1:=fun k hk=>by have:=hmax k (mem_kept hk);omega
  have hN2:∀ k ∈ kept base (nums++[i+1]),k≤i+1:=fun k hk=>max_last hN1.rising hlast1 k (mem_kept hk)
  have hko:∀ k ∈ kept base (nums++[i+1]),∀ m ∈ fr k,okBody m∧∀ r ∈ m,Is r:=fun k hk=>hok1 k (mem_kept hk)
  have eall:all (kept base (nums++[i+1])) fr=all (kept base nums) fr:=by
   rw [kept_app base nums hb1]
   by_cases h0:base=0
   ·rw [if_pos h0,h0,kept_zero,all_next hne hf]
   ·rw [if_neg h0]
  rcases h5' with hb|hb|hb
  ·exact .inl (fell_of h3 h4 hb (kept_nums h.lg.num base h.left) (fun k hk=>h.lg.ok k (mem_kept hk)) h5 hN0)
  ·refine .inl ?_
   rw [← eall]
   exact fell_of h3 h4 hb (kept_nums hN1 base hleft1) hko h5 hN2
  ·have hf2:=fell_of (N:=i+1) h3 h4 hb (kept_nums hN1 base hleft1) (bump_ok hko hl his) h5 hN2
   rw [kept_app base nums hb1] at hf2
   by_cases h0:base=0
   ·rw [if_pos h0,all_more hne hf l] at hf2
    exact .inr ⟨h0,hf2⟩
   ·rw [if_neg h0,all_cong (nums:=kept base nums) (fr:=bump fr (i+1) l) (fr':=fr) (fun k hk=>bump_other fr l (hne k (mem_kept hk)))] at hf2
    exact .inl hf2
theorem begin_there (h:Lv S cap nums 0 begun fr i) (hi:i+1≤98) (hc:((tot S.files+40+4 * nums.length:Nat):Int)≤cap) :
  (∃ T,run (rotA (i+1) (manFile (nums++[i+1]) (i+1) true)) S=(0,T)∧Lv T cap (nums++[i+1]) (i+1) true fr (i+1)∧tot T.files≤tot S.files+40+4 * nums.length) ∨
  (∃ T,run (rotA (i+1) (manFile (nums++[i+1]) (i+1) true)) S=(15,T)∧S.plan≠none∧tot T.files≤tot S.files+40+4 * nums.length∧Fell T cap (i+1) begun (all nums fr)):=by
 have hlen:=h.lg.inv.files h.lg.up.apart
 have hmany:=h.many
 have hk:=inv_known h.lg.inv h.lows
 have hmax:=max_last h.lg.num.rising h.last
 have hf:=h.next (i+1) (by omega)
 have hne:∀ k ∈ nums,k≠i+1:=fun k hk e=>by have:=hmax k hk;omega
 have hN1:Nums (nums++[i+1]):=by
  refine ⟨List.pairwise_append.2 ⟨h.lg.num.rising,List.pairwise_singleton _ _,fun a ha b hb=>?_⟩,fun j hj=>?_,by simp⟩
  ·rw [List.mem_singleton.1 hb]
   have:=hmax a ha;omega
  ·rcases List.mem_append.1 hj with h7|h7
   ·exact h.lg.num.pos j h7
   ·rw [List.mem_singleton.1 h7];omega
 have hok1:∀ j ∈ nums++[i+1],∀ m ∈ fr j,okBody m∧∀ r ∈ m,Is r:=fun j hj m hm=>by
  rcases List.mem_append.1 hj with h7|h7
  ·exact h.lg.ok j h7 m hm
  ·rw [List.mem_singleton.1 h7,hf] at hm;cases hm
 have had:adds (rotA (i+1) (manFile (nums++[i+1]) (i+1) true))=15+4 * (nums.length+1):=by rw [adds_rot,man_length,List.length_append,List.length_singleton]
 have hkn:kept (i+1) (nums++[i+1])=nums:=by
  rw [kept_app (i+1) nums (.inr (Nat.le_refl _)),if_neg (by omega)]
  unfold kept
  rw [if_neg (by omega)]
  exact List.filter_eq_self.2 (fun k hk=>by have:=hmax k hk;simp;omega)
 rcases deed h.lg.up (rot_mays h.lg.inv hne (manFile (nums++[i+1]) (i+1) true)) (by rw [news_rot];omega) (by rw [had];omega) (P:=fun v=>Inv v (nums++[i+1]) (i+1) true fr) (rot_inv h.lg.inv hne hf (i+1) true)
  (Q:=fun v=>Known v∧Back v (kept 0 nums) begun fr) (fun j hj kp hkp=>⟨(hk.sees (fun x hx=>known_rot (by omega) _ x (List.mem_of_mem_take hx))).cut kp,rot_crash h.lg.inv h.tri hne _ hkp j hj⟩)
  with ⟨T,h1,h2,h3,h4,h5,h6⟩|⟨T,h1,h2,h3,h4,⟨h5,h5'⟩,h6,h7⟩
 ·rw [had] at h6
  exact .inl ⟨T,h1,⟨⟨h2,h3,hN1,hok1⟩,by simp,hi,.inr (Nat.le_refl _),by rw [hkn];exact h.lg.num.some_,fun k hk=>h.next k (by omega)⟩,by omega⟩
 ·rw [had] at h7
  rw [kept_zero] at h5'
  exact .inr ⟨T,h1,h2,by omega,fell_of h3 h4 h5' h.lg.num h.lg.ok h5 (fun k hk=>by have:=hmax k hk;omega)⟩
theorem adopt_there (h:Lv S cap nums base begun fr i) (h0:base≠0) (hc:((tot S.files+40+4 * nums.length:Nat):Int)≤cap) :
  (∃ T,run (adA nums base) S=(0,T)∧Lv T cap (from_ base nums) 0 false fr i∧tot T.files≤tot S.files+40+4 * nums.length) ∨
  (∃ T,run (adA nums base) S=(15,T)∧S.plan≠none∧tot T.files≤tot S.files+40+4 * nums.length∧(Fell T cap (i+1) begun (all (kept base nums) fr)∨Fell T cap (i+1) false (all (from_ base nums) fr))):=by
 have hlen:=h.lg.inv.files h.lg.up.apart
 have hmany:=h.many
 have hk:=inv_known h.lg.inv h.lows
 have hmem:=last_mem h.last
 have hbi:base≤i:=by have:=h.base_;omega
 have hfl:(from_ base nums).length≤nums.length:=List.length_filter_le _ _
 have had:adds (adA nums base)≤15+4 * nums.length:=by rw [adds_ad,man_length];omega
 have hN1:=from_nums h.lg.num hmem hbi
 have hlast1:(from_ base nums).getLast?=some i:=by
  have hne:nums≠[]:=h.lg.num.some_
  have e:=List.dropLast_concat_getLast hne
  have hl:nums.getLast hne=i:=by have:=h.last;rw [List.getLast?_eq_some_getLast hne] at this;exact Option.some.inj this
  rw [hl] at e
  unfold from_
  rw [← e,List.filter_append]
  simp [hbi]
 rcases deed h.lg.up (ad_mays h.lg.inv h.lg.num) (by rw [news_ad];omega) (by omega) (P:=fun v=>Inv v (from_ base nums) 0 false fr) (adopt_inv h.lg.inv)
  (Q:=fun v=>Known v∧(Back v (kept base nums) begun fr∨Back v (from_ base nums) false fr)) (fun j hj kp hkp=>⟨(hk.sees (fun x hx=>known_ad _ _ x (List.mem_of_mem_take hx))).cut kp,adopt_crash h.lg.inv h.tri ⟨i,hmem,hbi⟩ hkp j hj⟩)
  with ⟨T,h1,h2,h3,h4,h5,h6⟩|⟨T,h1,h2,h3,h4,⟨h5,h5'⟩,h6,h7⟩
 ·exact .inl ⟨T,h1,⟨⟨h2,h3,hN1,fun k hk=>h.lg.ok k (mem_from.1 hk).1⟩,hlast1,h.low,.inl rfl,by rw [kept_zero];exact hN1.some_,h.next⟩,by omega⟩
 ·refine .inr ⟨T,h1,h2,by omega,?_⟩
  rcases h5' with hb|hb
  ·exact .inl (fell_of h3 h4 hb (kept_nums h.lg.num base h.left) (fun k hk=>h.lg.ok k (mem_kept hk)) h5 (fun k hk=>by have:=max_last h.lg.num.rising h.last k (mem_kept hk);omega))
  ·exact .inr (fell_of h3 h4 hb hN1 (fun k hk=>h.lg.ok k (mem_from.1 hk).1) h5 (fun k hk=>by have:=max_last h.lg.num.rising h.last k (mem_from.1 hk).1;omega))
end
end Go.Proofs.YtbhoknnjilidnaaGreatDoor.Seg
end
section
namespace Go.Proofs.YtbhoknnjilidnaaGreatDoor.Seg
open Go.Proofs.YtbhoknnjilidnaaGreatDoor.Mem
open Go.Proofs.YtbhoknnjilidnaaGreatDoor.Disk (Nm File St Eff Fs Apart sees sees_cons sees_app run tot PlanOk mapv trunc)
open Go.Proofs.YtbhoknnjilidnaaGreatDoor.Rec (Rcd Is okBody)
open Go.Proofs.YtbhoknnjilidnaaGreatDoor.Frame (frm)
open Go.Proofs.YtbhoknnjilidnaaGreatDoor.Torn (one frames size frm_size total scan piecesOf)
structure Mid (S:St) (T:St) (cap:Int) (nums:List Nat) (begun:Bool) (fr:Nat→List (List Rcd)):Prop where
 up:Up cap T
 back:Back (vw T.files) nums begun fr
 known:Known (vw T.files)
 plan:S.plan=none→T.plan=none
section
variable {S:St} {cap:Int} {nums:List Nat} {begun:Bool} {fr:Nat→List (List Rcd)} {N:Nat}
theorem part {T0:St} (hM:Mid S T0 cap nums begun fr) (hN:Nums nums) (ho:∀ i ∈ nums,∀ l ∈ fr i,okBody l∧∀ r ∈ l,Is r) (htop:∀ k ∈ nums,k≤N) {xs:List Eff} (hm:MaysV xs (vw T0.files)) (hk:∀ x ∈ xs,knownE x) (hn:news xs≤1) (hc:((tot T0.files+adds xs:Nat):Int)≤cap)
  (hB:∀ j,j≤xs.length→Back (sees (xs.take j) (vw T0.files)) nums begun fr) :
  (∃ T,run xs T0=(0,T)∧Mid S T cap nums begun fr∧vw T.files=sees xs (vw T0.files)∧tot T.files≤tot T0.files+adds xs)∨(∃ T,run xs T0=(15,T)∧S.plan≠none∧Fell T cap N begun (all nums fr)∧tot T.files≤tot T0.files+adds xs):=by
 have hf:=hM.known.files hM.up.apart
 rcases deed hM.up hm (by omega) hc (P:=fun v=>v=sees xs (vw T0.files)) rfl (Q:=fun v=>Known v∧Back v nums begun fr)
  (fun j hj kp hkp=>⟨(hM.known.sees (fun x hx=>hk x (List.mem_of_mem_take hx))).cut kp,(hB j (Nat.le_of_lt hj)).crash hkp⟩)
  with ⟨T,h1,h2,h3,h4,h5,h6⟩|⟨T,h1,h2,h3,h4,⟨h5,h5'⟩,h6,h7⟩
 ·have hb:=hB xs.length (Nat.le_refl _)
  rw [List.take_length] at hb
  exact .inl ⟨T,h1,⟨h2,by rw [h3];exact hb,by rw [h3];exact hM.known.sees hk,fun e=>h4 (hM.plan e)⟩,h3,h6⟩
 ·exact .inr ⟨T,h1,fun e=>h2 (hM.plan e),fell_of h3 h4 h5' hN ho h5 htop,h7⟩
theorem Bk.mid (h:Bk S cap nums begun fr):Mid S S cap nums begun fr:=⟨h.up,h.back,h.known,fun e=>e⟩
theorem news_opT (has:Bool):news (opT has)=0:=by unfold opT;split <;> rfl
theorem adds_opT (has:Bool):adds (opT has)=0:=by unfold opT;split <;> rfl
theorem news_opC (torn:Bool) (i n:Nat):news (opC torn i n)=0:=by unfold opC;split <;> rfl
theorem adds_opC (torn:Bool) (i n:Nat):adds (opC torn i n)=0:=by unfold opC;split <;> rfl
theorem part_t (h:Bk S cap nums begun fr) (htop:∀ k ∈ nums,k≤N) (hc:((tot S.files:Nat):Int)≤cap) :
  (∃ T,run (opT (Disk.look nT S.files).isSome) S=(0,T)∧Mid S T cap nums begun fr∧Disk.look nT T.files=none∧Disk.look nM T.files=Disk.look nM S.files∧(∀ k,Disk.look (seg k) T.files=Disk.look (seg k) S.files)∧tot T.files≤tot S.files)∨(∃ T,run (opT (Disk.look nT S.files).isSome) S=(15,T)∧S.plan≠none∧Fell T cap N begun (all nums fr)∧tot T.files≤tot S.files):=by
 have hm:MaysV (opT (Disk.look nT S.files).isSome) (vw S.files):=by
  unfold opT
  split
  ·rename_i h1
   exact ⟨h1,trivial⟩
  ·trivial
 rcases part h.mid h.num h.ok htop hm (known_opT _) (by rw [news_opT];omega) (by rw [adds_opT];exact hc) (fun j hj=>opT_back h.back j) with ⟨T,h1,h2,h3,h4⟩|⟨T,h1,h2,h3,h4⟩
 ·rw [adds_opT] at h4
  have e:∀ n,Disk.look n T.files=if n=nT then none else Disk.look n S.files:=fun n=>by
   have:=congrFun h3 n
   rw [show vw S.files=fun n=>Disk.look n S.files from rfl] at this
   exact this.trans (opT_see (vw S.files) n)
  exact .inl ⟨T,h1,h2,by rw [e,if_pos rfl],by rw [e,if_neg t_m.symm],fun k=>by rw [e,if_neg (seg_t k)],by omega⟩
 ·rw [adds_opT] at h4
  exact .inr ⟨T,h1,h2,h3,by omega⟩
theorem part_m {T0:St} (hM:Mid S T0 cap nums begun fr) (hN:Nums nums) (hl:Low nums) (ho:∀ i ∈ nums,∀ l ∈ fr i,okBody l∧∀ r ∈ l,Is r) (htop:∀ k ∈ nums,k≤N) (ht:Disk.look nT T0.files=none) {base:Nat} (hm0:base=0→Disk.look nM T0.files=some (full (manFile nums 0 begun))) (hc:((tot T0.files+(15+4 * nums.length):Nat):Int)≤cap) :
  (∃ T,run (opM base nums begun) T0=(0,T)∧Mid S T cap nums begun fr∧Disk.look nT T.files=none∧Disk.look nM T.files=some (full (manFile nums 0 begun))∧(∀ k,Disk.look (seg k) T.files=Disk.look (seg k) T0.files)∧tot T.files≤tot T0.files+(15+4 * nums.length))∨(∃ T,run (opM base nums begun) T0=(15,T)∧S.plan≠none∧Fell T cap N begun (all nums fr)∧tot T.files≤tot T0.files+(15+4 * nums.length)):=by
 have ha:adds (opM base nums begun)≤15+4 * nums.length:=by
  unfold opM;split
  ·exact Nat.zero_le _
  ·rw [adds_sw,man_length];exact Nat.le_refl _
 have hn:news (opM base nums begun)≤1:=by
  unfold opM;split
  ·exact Nat.zero_le _
  ·exact Nat.le_refl _
 have hm:MaysV (opM base nums begun) (vw T0.files):=by
  unfold opM
  split
  ·trivial
  ·exact sw_mays ht _
 rcases part hM hN ho htop hm (known_opM _ _ _) hn (by omega) (fun j hj=>opM_back ⟨hN,hl⟩ hM.back j) with ⟨T,h1,h2,h3,h4⟩|⟨T,h1,h2,h3,h4⟩
 ·have e:∀ n,Disk.look n T.files=if n=nM then some (full (manFile nums 0 begun)) else Disk.look n T0.files:=fun n=>(congrFun h3 n).trans (opM_see hm0 ht n)
  exact .inl ⟨T,h1,h2,by rw [e,if_neg t_m,ht],by rw [e,if_pos rfl],fun k=>by rw [e,if_neg (seg_m k)],by omega⟩
 ·exact .inr ⟨T,h1,h2,h3,by omega⟩
theorem part_g {T0:St} (hM:Mid S T0 cap nums begun fr) (hN:Nums nums) (ho:∀ i ∈ nums,∀ l ∈ fr i,okBody l∧∀ r ∈ l,Is r) (htop:∀ k ∈ nums,k≤N) (ht:Disk.look nT T0.files=none) (hm0:Disk.look nM T0.files=some (full (manFile nums 0 begun))) (hc:((tot T0.files:Nat):Int)≤cap) :
  (∃ T,run (goneN (untold nums (T0.files.map (·.1)))) T0=(0,T)∧Mid S T cap nums begun fr∧Disk.look nM T.files=some (full (manFile nums 0 begun))∧(∀ n,(vw T.files n).isSome=true→n=nM∨∃ k ∈ nums,n=seg k)∧(∀ k ∈ nums,Disk.look (seg k) T.files=Disk.look (seg k) T0.files)∧tot T.files≤tot T0.files)∨(∃ T,run (goneN (untold nums (T0.files.map (·.1)))) T0=(15,T)∧S.plan≠none∧Fell T cap N begun (all nums fr)∧tot T.files≤tot T0.files):=by
 have hmem:∀ n,n ∈ untold nums (T0.files.map (·.1)) ↔ (vw T0.files n).isSome=true∧¬ (n=nM∨n ∈ nums.map seg):=fun n=>by
  unfold untold
  rw [List.mem_filter,look_names]
  unfold toldBy
  simp [vw]
 have hoff:∀ n ∈ untold nums (T0.files.map (·.1)),Off nums n:=fun n hn=>by
  have:=((hmem n).1 hn).2
  exact ⟨fun e=>this (.inl e),fun k hk e=>this (.inr (e ▸ List.mem_map_of_mem hk))⟩
 have hnd:(untold nums (T0.files.map (·.1))).Nodup:=by
  unfold untold
  refine List.Pairwise.filter _ ?_
  exact List.pairwise_map.2 (hM.up.apart.imp (fun h=>h))
 rcases part hM hN ho htop (goneN_mays hnd (fun n hn=>((hmem n).1 hn).1)) (known_gone _) (by rw [news_gone];omega) (by rw [adds_gone];exact hc) (fun j hj=>goneN_back hM.back hoff j) with ⟨T,h1,h2,h3,h4⟩|⟨T,h1,h2,h3,h4⟩
 ·rw [adds_gone] at h4
  have e:∀ n,Disk.look n T.files=if n ∈ untold nums (T0.files.map (·.1)) then none else Disk.look n T0.files:=fun n=>(congrFun h3 n).trans (goneN_see _ _ n)
  refine .inl ⟨T,h1,h2,by rw [e,if_neg (fun hn=>(hoff _ hn).1 rfl)];exact hm0,fun n hn=>?_,fun k hk=>by rw [e,if_neg (fun hn=>(hoff _ hn).2 k hk rfl)],by omega⟩
  have hn':(Disk.look n T.files).isSome=true:=hn
  rw [e] at hn'
  by_cases hd:n ∈ untold nums (T0.files.map (·.1))
  ·rw [if_pos hd] at hn';cases hn'
  ·rw [if_neg hd] at hn'
   have:n=nM∨n ∈ nums.map seg:=Classical.byContradiction (fun hx=>hd ((hmem n).2 ⟨hn',hx⟩))
   rcases this with h|h
   ·exact .inl h
   ·obtain ⟨k,hk,rfl⟩:=List.mem_map.1 h
    exact .inr ⟨k,hk,rfl⟩
 ·rw [adds_gone] at h4
  exact .inr ⟨T,h1,h2,h3,by omega⟩
def only (nums:List Nat) (fr:Nat→List (List Rcd)):Nat→List (List Rcd):=fun k=>if k ∈ nums then fr k else []
theorem only_in {nums:List Nat} {fr:Nat→List (List Rcd)} {k:Nat} (h:k ∈ nums):only nums fr k=fr k:=if_pos h
theorem part_c {T0:St} (hM:Mid S T0 cap nums begun fr) (hN:Nums nums) (ho:∀ i ∈ nums,∀ l ∈ fr i,okBody l∧∀ r ∈ l,Is r) (htop:∀ k ∈ nums,k≤N) (h98:N≤98) {L:Nat} (hL:nums.getLast?=some L) {tail:List Int} (hm0:Disk.look nM T0.files=some (full (manFile nums 0 begun))) (hon:∀ n,(vw T0.files n).isSome=true→n=nM∨∃ k ∈ nums,n=seg k) (htl:Disk.look (seg L) T0.files=some (full (frames (fr L)++tail))) (hc:((tot T0.files:Nat):Int)≤cap) :
  (∃ T,run (opC (decide ((frames (fr L)).length < (frames (fr L)++tail).length)) L (frames (fr L)).length) T0=(0,T)∧Lv T cap nums 0 begun (only nums fr) L∧(S.plan=none→T.plan=none)∧tot T.files≤tot T0.files)∨(∃ T,run (opC (decide ((frames (fr L)).length < (frames (fr L)++tail).length)) L (frames (fr L)).length) T0=(15,T)∧S.plan≠none∧Fell T cap N begun (all nums fr)∧tot T.files≤tot T0.files):=by
 have hmem:=last_mem hL
 have htn:decide ((frames (fr L)).length < (frames (fr L)++tail).length)=false→tail=[]:=fun e=>by
  have:=of_decide_eq_false e
  rw [List.length_append] at this
  exact List.eq_nil_of_length_eq_zero (by omega)
 have hnt:Disk.look nT T0.files=none:=by
  cases e:Disk.look nT T0.files with
  | none=>rfl
  | some f =>
   rcases hon nT (by show (Disk.look nT T0.files).isSome=true;rw [e];rfl) with h1|⟨k,_,h1⟩
   ·exact absurd h1 t_m
   ·exact absurd h1.symm (seg_t k)
 have hm:MaysV (opC (decide ((frames (fr L)).length < (frames (fr L)++tail).length)) L (frames (fr L)).length) (vw T0.files):=by
  unfold opC
  split
  ·refine ⟨⟨_,htl,by show (frames (fr L)).length≤(frames (fr L)++tail).length;rw [List.length_append];omega⟩,?_,trivial⟩
   have htl':vw T0.files (seg L)=some (full (frames (fr L)++tail)):=htl
   simp [mayV,Eff.see,htl']
  ·trivial
 rcases part hM hN ho htop hm (known_opC _ _ _) (by rw [news_opC];omega) (by rw [adds_opC];exact hc) (fun j hj=>opC_back hM.back hmem htl _ j) with ⟨T,h1,h2,h3,h4⟩|⟨T,h1,h2,h3,h4⟩
 ·rw [adds_opC] at h4
  have hI:=open_inv hN hM.back (base:=0) (fun _=>hm0) hL htl (dels:=[]) (fun n hn=>by cases hn) (fun n hn=>by
   rcases hon n hn with h|h
   ·exact .inl h
   ·exact .inr (.inr (.inl h))) htn
  have e0:opA (vw T0.files nT).isSome 0 nums begun [] (decide ((frames (fr L)).length < (frames (fr L)++tail).length)) L (frames (fr L)).length=opC (decide ((frames (fr L)).length < (frames (fr L)++tail).length)) L (frames (fr L)).length:=by
   have e1:vw T0.files nT=none:=hnt
   rw [e1]
   rfl
  rw [e0,← h3] at hI
  have hI2:Inv (vw T.files) nums 0 begun (only nums fr):=⟨hI.man,fun k hk=>by rw [only_in hk];exact hI.segs k hk,hI.only⟩
  refine .inl ⟨T,h1,⟨⟨h2.up,hI2,hN,fun k hk m hm=>ho k hk m (by rw [only_in hk] at hm;exact hm)⟩,hL,Nat.le_trans (htop L hmem) h98,.inl rfl,by rw [kept_zero];exact hN.some_,fun k hk=>?_⟩,h2.plan,by omega⟩
  exact if_neg (fun hkm=>by have:=max_last hN.rising hL k hkm;omega)
 ·rw [adds_opC] at h4
  exact .inr ⟨T,h1,h2,h3,by omega⟩
theorem all_only (nums:List Nat) (fr:Nat→List (List Rcd)):all nums (only nums fr)=all nums fr:=all_cong (fun i hi=>only_in hi)
end
end Go.Proofs.YtbhoknnjilidnaaGreatDoor.Seg
end

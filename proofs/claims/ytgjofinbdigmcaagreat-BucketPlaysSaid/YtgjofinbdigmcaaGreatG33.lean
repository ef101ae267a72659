/- The document's keys, a rising list; what it has to do with the program's table. The document's bucket in memory; its Find, Token and used. The law's own list of tokens: where a serial is, or would be; what is put, and struck. -/
import Derived.Test.YtgjofinbdigmcaaGreatG32
import Derived.Test.YtgjofinbdigmcaaGreatG28
import Derived.Handy
set_option linter.unusedSimpArgs false
set_option linter.unusedVariables false
set_option maxHeartbeats 2000000
set_option maxRecDepth 100000
section
namespace Go.Proofs.YtgjofinbdigmcaaGreat.Buk
open Go.Proofs.YtgjofinbdigmcaaGreat.Mem
structure RK where
 key:ByteArray
 val:ByteArray
 ver:Nat
 exp:Nat
 p:Spt
def kl (a b:ByteArray):Bool:=Op.bytesLess a.toList b.toList
theorem kl_irrefl (a:ByteArray):kl a a=false:=Exp.bl_irrefl _
theorem kl_trans {a b c:ByteArray} (h1:kl a b=true) (h2:kl b c=true):kl a c=true:=Exp.bl_trans _ _ _ h1 h2
theorem kl_total {a b:ByteArray} (h1:kl a b=false) (h2:kl b a=false):a=b:=Exp.key_eq (Exp.bl_total _ _ h1 h2)
theorem kl_ne {a b:ByteArray} (h:kl a b=true):a≠b:=by
 rintro rfl
 rw [kl_irrefl] at h
 cases h
theorem kl_asymm {a b:ByteArray} (h:kl a b=true):kl b a=false:=by
 cases hb:kl b a with
 | false=>rfl
 | true=>exact absurd rfl (kl_ne (kl_trans h hb))
def RisK (K:List RK):Prop:=K.Pairwise fun x y=>kl x.key y.key=true
def fpl (s:ByteArray):List RK→Nat
 | []=>0
 | y :: K=>if kl y.key s then fpl s K+1 else 0
def fhas (s:ByteArray) (K:List RK):Bool:=match K[fpl s K]? with
 | some y=>decide (y.key=s)
 | none=>false
theorem fpl_le (s:ByteArray):∀ K:List RK,fpl s K≤K.length
 | []=>Nat.le_refl _
 | y :: K=>by
  have:=fpl_le s K
  unfold fpl
  split <;> simp <;> omega
theorem fpl_take {s:ByteArray}:∀ {K:List RK},∀ y ∈ K.take (fpl s K),kl y.key s=true
 | [],y,h=>by simp [fpl] at h
 | x :: K,y,h=>by
  unfold fpl at h
  split at h
  ·next hx =>
   rw [List.take_succ_cons] at h
   rcases List.mem_cons.1 h with rfl|h
   ·exact hx
   ·exact fpl_take y h
  ·simp at h
theorem fpl_get {s:ByteArray}:∀ {K:List RK} {i:Nat} (h:i < K.length),i < fpl s K→kl (K[i]).key s=true:=fun {K i} h hi=>fpl_take _ (List.mem_take_iff_getElem.2 ⟨i,by omega,rfl⟩)
theorem fpl_at {s:ByteArray}:∀ {K:List RK} (h:fpl s K < K.length),kl (K[fpl s K]).key s=false
 | [],h=>by simp at h
 | x :: K,h=>by
  by_cases hx:kl x.key s=true
  ·have e:fpl s (x :: K)=fpl s K+1:=by rw [fpl,if_pos hx]
   simp only [e,List.getElem_cons_succ]
   rw [e] at h
   exact fpl_at (by simpa using h)
  ·have e:fpl s (x :: K)=0:=by rw [fpl,if_neg hx]
   simp only [e,List.getElem_cons_zero]
   simpa using hx
theorem fpl_drop {s:ByteArray} {K:List RK} (hr:RisK K):∀ y ∈ K.drop (fpl s K),kl y.key s=false:=by
 intro y hy
 obtain ⟨j,hj,rfl⟩:=List.getElem_of_mem hy
 rw [List.length_drop] at hj
 rw [List.getElem_drop]
 have h1:=fpl_at (s:=s) (K:=K) (by omega)
 by_cases h0:j=0
 ·subst h0;exact h1
 ·have h2:=List.pairwise_iff_getElem.1 hr (fpl s K) (fpl s K+j) (by omega) (by omega) (by omega)
  cases h3:kl (K[fpl s K+j]).key s with
  | false=>rfl
  | true=>rw [kl_trans h2 h3] at h1;cases h1
theorem fhas_at {s:ByteArray} {K:List RK}:fhas s K=true ↔ ∃ h:fpl s K < K.length,(K[fpl s K]).key=s:=by
 unfold fhas
 constructor
 ·intro h
  split at h
  ·next y hy =>
   obtain ⟨h1,rfl⟩:=List.getElem?_eq_some_iff.1 hy
   exact ⟨h1,of_decide_eq_true h⟩
  ·cases h
 ·rintro ⟨h,he⟩
  rw [List.getElem?_eq_getElem h]
  exact decide_eq_true he
theorem fhas_iff {s:ByteArray} {K:List RK} (hr:RisK K):fhas s K=true ↔ ∃ y ∈ K,y.key=s:=by
 rw [fhas_at]
 constructor
 ·rintro ⟨h,he⟩
  exact ⟨_,List.getElem_mem h,he⟩
 ·rintro ⟨y,hy,rfl⟩
  obtain ⟨j,hj,rfl⟩:=List.getElem_of_mem hy
  rcases Nat.lt_trichotomy j (fpl (K[j]).key K) with h|h|h
  ·have:=fpl_get (s:=(K[j]).key) hj h
   rw [kl_irrefl] at this
   cases this
  ·exact ⟨by omega,by congr 1;simp only [← h]⟩
  ·have h1:=fpl_at (s:=(K[j]).key) (K:=K) (by omega)
   have h2:=List.pairwise_iff_getElem.1 hr (fpl (K[j]).key K) j (by omega) hj h
   rw [h2] at h1
   cases h1
def kdrop (s:ByteArray) (K:List RK):List RK:=if fhas s K then K.take (fpl s K)++K.drop (fpl s K+1) else K
def kput (x:RK) (K:List RK):List RK:=(kdrop x.key K).take (fpl x.key (kdrop x.key K))++x :: (kdrop x.key K).drop (fpl x.key (kdrop x.key K))
theorem kdrop_sub (s:ByteArray) (K:List RK):(kdrop s K).Sublist K:=by
 unfold kdrop
 split
 ·have h:=List.Sublist.append (List.Sublist.refl (K.take (fpl s K))) (List.drop_sublist 1 (K.drop (fpl s K)))
  rw [List.drop_drop,List.take_append_drop] at h
  exact h
 ·exact List.Sublist.refl _
theorem kdrop_ris {s:ByteArray} {K:List RK} (hr:RisK K):RisK (kdrop s K):=hr.sublist (kdrop_sub s K)
theorem mem_kdrop {s:ByteArray} {K:List RK} (hr:RisK K) {y:RK}:y ∈ kdrop s K ↔ y ∈ K∧y.key≠s:=by
 constructor
 ·intro h
  refine ⟨(kdrop_sub s K).subset h,fun he=>?_⟩
  unfold kdrop at h
  split at h
  ·next hf =>
   obtain ⟨h1,h2⟩:=fhas_at.1 hf
   rcases List.mem_append.1 h with h|h
   ·exact kl_ne (fpl_take y h) he
   ·obtain ⟨j,hj,rfl⟩:=List.getElem_of_mem h
    rw [List.length_drop] at hj
    rw [List.getElem_drop] at he
    have h3:=List.pairwise_iff_getElem.1 hr (fpl s K) (fpl s K+1+j) h1 (by omega) (by omega)
    rw [h2,he,kl_irrefl] at h3
    cases h3
  ·next hf=>exact hf ((fhas_iff hr).2 ⟨y,h,he⟩)
 ·rintro ⟨h,hne⟩
  unfold kdrop
  split
  ·next hf =>
   obtain ⟨h1,h2⟩:=fhas_at.1 hf
   obtain ⟨j,hj,rfl⟩:=List.getElem_of_mem h
   rcases Nat.lt_trichotomy j (fpl s K) with h3|h3|h3
   ·exact List.mem_append_left _ (List.mem_take_iff_getElem.2 ⟨j,by omega,rfl⟩)
   ·exact absurd (by simp only [h3];exact h2) hne
   ·exact List.mem_append_right _ (List.mem_drop_iff_getElem.2 ⟨j - (fpl s K+1),by omega,by congr 1;omega⟩)
  ·exact h
theorem mem_kput {x:RK} {K:List RK} (hr:RisK K) {y:RK}:y ∈ kput x K ↔ y=x∨(y ∈ K∧y.key≠x.key):=by
 rw [← mem_kdrop hr]
 unfold kput
 rw [List.mem_append,List.mem_cons]
 conv=>rhs;rw [← List.take_append_drop (fpl x.key (kdrop x.key K)) (kdrop x.key K),List.mem_append]
 constructor
 ·rintro (h|h|h)
  ·exact .inr (.inl h)
  ·exact .inl h
  ·exact .inr (.inr h)
 ·rintro (h|h|h)
  ·exact .inr (.inl h)
  ·exact .inl h
  ·exact .inr (.inr h)
theorem kput_ris {x:RK} {K:List RK} (hr:RisK K):RisK (kput x K):=by
 have hd:=kdrop_ris (s:=x.key) hr
 unfold kput RisK
 have hp:((kdrop x.key K).take (fpl x.key (kdrop x.key K))++(kdrop x.key K).drop (fpl x.key (kdrop x.key K))).Pairwise fun x y=>kl x.key y.key=true:=by rw [List.take_append_drop];exact hd
 have hq:=List.pairwise_append.1 hp
 refine List.pairwise_append.2 ⟨hq.1,List.pairwise_cons.2 ⟨fun y hy=>?_,hq.2.1⟩,fun a ha b hb=>?_⟩
 ·have h1:=fpl_drop hd y hy
  have h2:=((mem_kdrop hr).1 (List.mem_of_mem_drop hy)).2
  cases h3:kl x.key y.key with
  | true=>rfl
  | false=>exact absurd (kl_total h1 h3) h2
 ·rcases List.mem_cons.1 hb with rfl|hb
  ·exact fpl_take a ha
  ·exact hq.2.2 a ha b hb
def entK (x:RK):Ent:=⟨x.key,x.p.1,x.p.2.1,x.p.2.2,x.ver,x.exp,(x.val.size:Int)⟩
structure Rep (T:Tab) (K:List RK):Prop where
 ris:RisK K
 mem:∀ e,some e ∈ T ↔ ∃ x ∈ K,entK x=e
theorem ris_apart {K:List RK} (h:RisK K):(K.map entK).Pairwise fun x y=>x.key≠y.key:=by
 rw [List.pairwise_map]
 exact h.imp fun hk=>kl_ne hk
theorem Rep.perm {T:Tab} {K:List RK} {i:Nat} (h:Rep T K) (hg:Key.Good T i):(all T).Perm (K.map entK) :=
 perm_of (all_apart hg.wf) (ris_apart h.ris) (fun e=>by rw [mem_all,h.mem,List.mem_map])
theorem Rep.cnt {T:Tab} {K:List RK} {i:Nat} (h:Rep T K) (hg:Key.Good T i):Key.cnt T=K.length:=by
 rw [← all_length,(h.perm hg).length_eq,List.length_map]
def kbytes:List RK→Int
 | []=>0
 | x :: K=>((x.key.size:Int)+(x.val.size:Int))+kbytes K
theorem kbytes_tot:∀ K:List RK,tot (K.map entK)=kbytes K
 | []=>rfl
 | x :: K=>by
  rw [List.map_cons]
  show of (entK x)+tot _=_
  rw [kbytes_tot K]
  rfl
theorem Rep.tot {T:Tab} {K:List RK} {i:Nat} (h:Rep T K) (hg:Key.Good T i):Buk.tot (all T)=kbytes K:=by
 rw [tot_perm (h.perm hg),kbytes_tot]
theorem Rep.has {T:Tab} {K:List RK} {i:Nat} (h:Rep T K) (hg:Key.Good T i) (s:ByteArray):(Key.ask T s).isSome=fhas s K:=by
 rw [Bool.eq_iff_iff,fhas_iff h.ris]
 constructor
 ·intro h1
  obtain ⟨e,he⟩:=Option.isSome_iff_exists.1 h1
  obtain ⟨h2,h3⟩:=(Key.ask_iff hg.wf hg.free).1 he
  obtain ⟨x,hx,rfl⟩:=(h.mem e).1 h2
  exact ⟨x,hx,h3⟩
 ·rintro ⟨x,hx,rfl⟩
  have h1:Key.ask T x.key=some (entK x):=(Key.ask_iff hg.wf hg.free).2 ⟨(h.mem (entK x)).2 ⟨x,hx,rfl⟩,rfl⟩
  rw [h1]
  rfl
theorem Rep.put {T:Tab} {K:List RK} {i:Nat} (h:Rep T K) (hg:Key.Good T i) (x:RK):Rep (Key.put T (entK x)) (kput x K):=by
 refine ⟨kput_ris h.ris,fun e=>?_⟩
 rw [← mem_all,(all_put hg (entK x)).mem_iff,List.mem_cons,mem_but,mem_all,h.mem]
 constructor
 ·rintro (rfl|⟨⟨y,hy,rfl⟩,hne⟩)
  ·exact ⟨x,(mem_kput h.ris).2 (.inl rfl),rfl⟩
  ·exact ⟨y,(mem_kput h.ris).2 (.inr ⟨hy,hne⟩),rfl⟩
 ·rintro ⟨y,hy,rfl⟩
  rcases (mem_kput h.ris).1 hy with rfl|⟨h1,h2⟩
  ·exact .inl rfl
  ·exact .inr ⟨⟨y,h1,rfl⟩,h2⟩
theorem Rep.del {T:Tab} {K:List RK} {i:Nat} (h:Rep T K) (hg:Key.Good T i) (s:ByteArray):Rep (Key.del T s) (kdrop s K):=by
 refine ⟨kdrop_ris h.ris,fun e=>?_⟩
 rw [mem_del hg,h.mem]
 constructor
 ·rintro ⟨⟨y,hy,rfl⟩,hne⟩
  exact ⟨y,(mem_kdrop h.ris).2 ⟨hy,hne⟩,rfl⟩
 ·rintro ⟨y,hy,rfl⟩
  obtain ⟨h1,h2⟩:=(mem_kdrop h.ris).1 hy
  exact ⟨⟨y,h1,rfl⟩,h2⟩
def stays (now:Nat) (x:RK):Bool:=decide (x.exp=0) || decide (now < x.exp)
theorem Rep.tick {T T':Tab} {K:List RK} (h:Rep T K) {now:Nat} (ht:Ticks T T' now):Rep T' (K.filter (stays now)):=by
 refine ⟨h.ris.sublist (List.filter_sublist ..),fun e=>?_⟩
 rw [ht e,h.mem]
 have hs:∀ x:RK,stays now x=true ↔ (x.exp=0∨now < x.exp):=fun x=>by unfold stays;simp
 constructor
 ·rintro ⟨⟨y,hy,rfl⟩,hq⟩
  exact ⟨y,List.mem_filter.2 ⟨hy,(hs y).2 hq⟩,rfl⟩
 ·rintro ⟨y,hy,rfl⟩
  obtain ⟨h1,h2⟩:=List.mem_filter.1 hy
  exact ⟨⟨y,h1,rfl⟩,(hs y).1 h2⟩
theorem rep_new:Rep noT []:=⟨List.Pairwise.nil,fun e=>by simp⟩
theorem less_cmp:∀ a b:List UInt8,(Op.bytesLess a b || a == b)=decide (Key.cmp a b≤0)
 | [],[]=>rfl
 | [],_ :: _=>by unfold Key.cmp;rw [Lib.compareBytes,Op.bytesLess];rfl
 | _ :: _,[]=>by unfold Key.cmp;rw [Lib.compareBytes,Op.bytesLess];rfl
 | x :: a,y :: b=>by
  have ih:=less_cmp a b
  unfold Key.cmp at ih ⊢
  rw [Lib.compareBytes,Op.bytesLess]
  have hb:(x :: a == y :: b)=((x == y) && (a == b)):=rfl
  rw [hb]
  simp only [UInt8.lt_iff_toNat_lt]
  by_cases h1:x.toNat < y.toNat
  ·rw [if_pos h1];simp [h1]
  ·have e1:decide (x.toNat < y.toNat)=false:=decide_eq_false h1
   rw [if_neg h1,e1,Bool.false_or]
   by_cases h2:y.toNat < x.toNat
   ·have hne:(x == y)=false:=beq_eq_false_iff_ne.2 (fun e=>by rw [e] at h2;omega)
    rw [if_pos h2,hne]
    rfl
   ·have heq:x=y:=UInt8.toNat_inj.1 (by omega)
    subst heq
    rw [if_neg h2,beq_self_eq_true,Bool.true_and,Bool.true_and]
    exact ih
theorem cmp_less {a b:List UInt8} (h:¬ Key.cmp b a < 0) (hne:a≠b):Op.bytesLess a b=true:=by
 have h1:=less_cmp a b
 have h2:=Key.cmp_anti a b
 rw [decide_eq_true (by omega),beq_eq_false_iff_ne.2 hne,Bool.or_false] at h1
 exact h1
theorem Rep.ents {T:Tab} {K:List RK} {i:Nat} (h:Rep T K) (hg:Key.Good T i) {L:List Ent} (hp:L.Perm (all T)) (hr:Key.rises L):L=K.map entK:=by
 have ha:L.Pairwise fun x y=>x.key≠y.key:=hp.symm.pairwise (all_apart hg.wf) (fun {_ _} h e=>h e.symm)
 have hL:L.Pairwise fun x y=>kl x.key y.key=true:=by
  have h1:L.Pairwise fun x y=>¬ Key.kc y x < 0:=hr
  refine List.Pairwise.imp (S:=fun x y=>kl x.key y.key=true) (fun {x y} hxy=>?_) (h1.and ha)
  unfold kl
  rw [ByteArray.toList_eq,ByteArray.toList_eq]
  exact cmp_less hxy.1 (fun e=>hxy.2 (Exp.key_eq (by rw [ByteArray.toList_eq,ByteArray.toList_eq];exact e)))
 have hK:(K.map entK).Pairwise fun x y=>kl x.key y.key=true:=by
  rw [List.pairwise_map]
  exact h.ris
 exact (hp.trans (h.perm hg)).eq_of_pairwise (fun a b _ _ h1 h2=>by rw [kl_asymm h1] at h2;cases h2) hL hK
end Go.Proofs.YtgjofinbdigmcaaGreat.Buk
end
section
namespace Go.Proofs.YtgjofinbdigmcaaGreat.Buk
open Go.Proofs.YtgjofinbdigmcaaGreat.Mem
open Go.ChangeShapes Go.WideShapes Go.ChangeAt Go.RowKit
def kcs (x:RK):List Value:=[.string x.key,.string x.val,.int .u64 (x.ver:Int),.int .u64 (x.exp:Int),.int .i64 x.p.1,.int .i64 x.p.2.1,.int .i64 x.p.2.2]
theorem kcs_length (x:RK):(kcs x).length=7:=rfl
theorem kcs_one (x:RK):∀ v ∈ kcs x,v.oneCell'=true:=by simp [kcs,Value.oneCell']
def kcl (K:List RK):List Value:=K.flatMap kcs
theorem kcl_one (K:List RK):∀ v ∈ kcl K,v.oneCell'=true:=by
 intro v hv
 obtain ⟨x,_,hx⟩:=List.mem_flatMap.1 hv
 exact kcs_one x v hx
theorem kcl_append (a b:List RK):kcl (a++b)=kcl a++kcl b:=by simp [kcl]
theorem rcl_one (L:List Rcd):∀ v ∈ rcl L,v.oneCell'=true:=by
 intro v hv
 obtain ⟨x,_,hx⟩:=List.mem_flatMap.1 hv
 exact rcs_one x v hx
theorem rcl_append (a b:List Rcd):rcl (a++b)=rcl a++rcl b:=by simp [rcl]
theorem kzero:(Tryz.prog.info? 72).map (fun i=>(i.zero,i.size,i.bytes))=some (some (.agg (kcs ⟨⟨#[]⟩,⟨#[]⟩,0,0,(0,0,0)⟩).toArray),7,72):=by kernel_rfl
theorem rzero:(Tryz.prog.info? 35).map (fun i=>(i.zero,i.size,i.bytes))=some (some (.agg (rcs Rec.zero).toArray),14,128):=by kernel_rfl
theorem size_key (w:World):(sizeOf 72).run Tryz.prog w = .ok 7 w:=by
 obtain ⟨i,hi,hc⟩:=Option.map_eq_some_iff.1 kzero
 simp only [Prod.mk.injEq] at hc
 simp [sizeOf,typeInfo,hi,hc.2.1]
theorem size_rec (w:World):(sizeOf 35).run Tryz.prog w = .ok 14 w:=by
 obtain ⟨i,hi,hc⟩:=Option.map_eq_some_iff.1 rzero
 simp only [Prod.mk.injEq] at hc
 simp [sizeOf,typeInfo,hi,hc.2.1]
section
variable {P:Program} {w:World} {base k n:Nat} {T t:TypeId} {v:Value} {xs:List Value}
theorem run_head (hu:P.underlying t=some (.slice T)) (hs:∀ w,(sizeOf T).run P w = .ok k w) (a:Option Addr) (c i:Nat) (hi:i≤c) (w:World):(Instr.sliceAt t (.slice a n c) none (some (.int .i64 (i:Int))) none).run P w = .ok (.slice (if c=0 then a else a.map (·.add (0 * k))) i c) w:=by
 have h1:¬ (i:Int) < 0:=by omega
 have h2:¬ (c:Int) < (i:Int):=by omega
 have h3:=hs w
 simp [Instr.sliceAt,Instr.slice,Instr.sliceBounds,Instr.sliceBound,asIntOf,run_underlying hu,h1,h2,h3,hi]
theorem run_tail (hu:P.underlying t=some (.slice T)) (hs:∀ w,(sizeOf T).run P w = .ok k w) (a:Option Addr) (c i:Nat) (hi:i≤n) (hn:n≤c) (w:World):(Instr.sliceAt t (.slice a n c) (some (.int .i64 (i:Int))) none none).run P w = .ok (.slice (if c=i then a else a.map (·.add (i * k))) (n - i) (c - i)) w:=by
 have h1:¬ (i:Int) < 0:=by omega
 have h2:¬ (n:Int) < (i:Int):=by omega
 have h3:=hs w
 simp [Instr.sliceAt,Instr.slice,Instr.sliceBounds,Instr.sliceBound,asIntOf,run_underlying hu,h1,h2,h3,hi]
theorem own_sees {g c:Nat} (h:w.ownsRow base T k (.slice (some ⟨g,0,none⟩) n c) n xs) {i j o d:Nat} (hij:i+j≤n) (ho:j=0∨o=i * k):Sees w k (.slice (some ⟨g,o,none⟩) j d) j ((xs.drop (i * k)).take (j * k)):=by
 have hx:=h.1
 have hm:i * k+j * k≤n * k:=by rw [← Nat.add_mul];exact Nat.mul_le_mul_right _ hij
 refine .inr ⟨_,_,rfl,by rw [List.length_take,List.length_drop,hx];omega,fun q u hq=>?_⟩
 have hql:=(List.getElem?_eq_some_iff.1 hq).1
 rw [List.length_take,List.length_drop,hx] at hql
 rcases ho with rfl|rfl
 ·omega
 ·refine ⟨(h.lt g rfl).2,?_⟩
  rw [add_none]
  have h1:=h.cellAt (i * k+q) (by omega)
  (try rw [Nat.zero_add] at h1)
  rw [h1,← hq,List.getElem?_take_of_lt (by omega),List.getElem?_drop]
theorem own_head (h:w.ownsRow base T k v n xs) (hu:P.underlying t=some (.slice T)) (hs:∀ w,(sizeOf T).run P w = .ok k w) {i:Nat} (hi:i≤n):∃ y,(∀ V,(Instr.sliceAt t v none (some (.int .i64 (i:Int))) none).run P V = .ok y V)∧∀ V,But (fun _=>False) w V→Sees V k y i (xs.take (i * k)):=by
 rcases h.2 with ⟨rfl,h0⟩|⟨g,cap,cur,rfl,h2,h3,h4,h5,h6,h7⟩
 ·subst h0
  obtain rfl:i=0:=by omega
  refine ⟨_,fun V=>run_head hu hs none 0 0 (Nat.le_refl _) V,fun V hV => .inl ⟨by simp,rfl,by simp⟩⟩
 ·refine ⟨_,fun V=>run_head hu hs (some ⟨g,0,none⟩) cap i (by omega) V,fun V hV=>?_⟩
  have e:(if cap=0 then (some ⟨g,0,none⟩:Option Addr) else (some (⟨g,0,none⟩:Addr)).map (·.add (0 * k)))=some ⟨g,0,none⟩:=by
   split
   ·rfl
   ·simp [Addr.add]
  rw [e]
  have h8:=own_sees (ownsRow_but h hV (fun _ _ h=>h)) (i:=0) (j:=i) (o:=0) (d:=cap) (by omega) (.inr (by omega))
  rwa [Nat.zero_mul,List.drop_zero] at h8
theorem own_tail (h:w.ownsRow base T k v n xs) (hu:P.underlying t=some (.slice T)) (hs:∀ w,(sizeOf T).run P w = .ok k w) {i:Nat} (hi:i≤n):∃ y,(∀ V,(Instr.sliceAt t v (some (.int .i64 (i:Int))) none none).run P V = .ok y V)∧∀ V,But (fun _=>False) w V→Sees V k y (n - i) (xs.drop (i * k)):=by
 have hx:=h.1
 rcases h.2 with ⟨rfl,h0⟩|⟨g,cap,cur,rfl,h2,h3,h4,h5,h6,h7⟩
 ·subst h0
  obtain rfl:i=0:=by omega
  refine ⟨_,fun V=>run_tail hu hs none 0 0 (Nat.le_refl _) (Nat.le_refl _) V,fun V hV => .inl ⟨by simp,rfl,List.eq_nil_of_length_eq_zero (by simp [hx])⟩⟩
 ·refine ⟨_,fun V=>run_tail hu hs (some ⟨g,0,none⟩) cap i hi h4 V,fun V hV=>?_⟩
  have h8:=fun o ho=>own_sees (ownsRow_but h hV (fun _ _ h=>h)) (i:=i) (j:=n - i) (o:=o) (d:=cap - i) (by omega) ho
  rw [List.take_of_length_le (by rw [List.length_drop,hx,Nat.sub_mul];omega)] at h8
  split
  ·exact h8 0 (.inl (by omega))
  ·have e:(⟨g,0,none⟩:Addr).add (i * k)=⟨g,i * k,none⟩:=by rw [add_none,Nat.zero_add]
   show Sees V k (.slice (some ((⟨g,0,none⟩:Addr).add (i * k))) (n - i) (cap - i)) _ _
   rw [e]
   exact h8 _ (.inr rfl)
theorem own_form (h:w.ownsRow base T k v n xs):∃ a c,v = .slice a n c∧(a=none→n=0):=by
 rcases h.2 with ⟨rfl,h0⟩|⟨g,cap,cur,rfl,_⟩
 ·exact ⟨none,0,by rw [h0],fun _=>h0⟩
 ·exact ⟨_,cap,rfl,fun h=>by cases h⟩
theorem own_less {base':Nat} (h:w.ownsRow base T k v n xs) (hb:base'≤base):w.ownsRow base' T k v n xs:=by
 refine ⟨h.1,?_⟩
 rcases h.2 with h2|⟨g,cap,cur,hv,hg,r⟩
 ·exact .inl h2
 ·exact .inr ⟨g,cap,cur,hv,Nat.le_trans hb hg,r⟩
theorem own_type (h:w.ownsRow base T k v n xs) {g:Nat} (hg:v.ownBlock=some g):∃ cs,Blk w g T cs:=by
 rcases h.2 with ⟨rfl,_⟩|⟨g',cap,cur,rfl,_,hh,_⟩
 ·cases hg
 ·have e:g'=g:=by simpa [Value.ownBlock] using hg
  subst e
  exact ⟨cur,hh⟩
theorem yields_slice {ops:Array Oper} {S:World→Prop} {op:Oper} {a:Act} (hw:Region.wanted op (yielded ops a.tmps)=true) (t:TypeId) (x:Operand) (lo hi:Option Operand) (ho:op.op = .slice t x lo hi none) (v y:Value) (l h:Option Value) (hx:a.eval x=v) (hl:lo.map a.eval=l) (hh:hi.map a.eval=h) (hr:∀ w,(Instr.sliceAt t v l h none).run P w = .ok y w):YieldsIf P ops S op y a :=
 .inl ⟨hw,fun w _=>by
  unfold execOp
  have h2:=hr w
  simp only [ho,hx,hl,hh,Option.map_none]
  simp only [Sem.run_bind,h2,Result.andThen_ok,Sem.run_pure]⟩
theorem wpList_slice {ops:Array Oper} {rest:List Oper} {op:Oper} {a:Act} {Q:Exit→Act→World→Prop} (hgd:op.guard=none) (t:TypeId) (x:Operand) (lo hi:Option Operand) (ho:op.op = .slice t x lo hi none) (v y:Value) (l h:Option Value) (hx:a.eval x=v) (hl:lo.map a.eval=l) (hh:hi.map a.eval=h) (hr:(Instr.sliceAt t v l h none).run P w = .ok y w) (hk:wpList P ops Q rest (a.put op.dst y) w):wpList P ops Q (op :: rest) a w :=
 wpList_plain hgd fun _ hK=>by
  unfold Oper.wp execOp
  simp only [ho,hx,hl,hh,Option.map_none]
  simp only [Sem.run_bind,hr,Result.andThen_ok,Sem.run_pure]
  exact hK _ _ hk
end
def rmcells (B:Bk) (kv tv:Value):Array Value := #[.int .i64 B.id,.int .u32 (B.gen:Int),.int .i64 B.q1,.int .i64 B.q2,.int .i64 B.q3,.int .u64 (B.seq:Int),.int .u32 (B.serial:Int),kv,tv,.int .i64 B.charged]
structure RM (w:World) (rp:Nat) (kv tv:Value) (B:Bk) (K:List RK):Prop where
 blk:Blk w rp 64 (rmcells B kv tv)
 keys:w.ownsRow 0 72 7 kv K.length (kcl K)
 toks:w.ownsRow 0 35 14 tv B.toks.length (rcl (B.toks.map (tokR B.id B.gen)))
section
variable {w w':World} {rp:Nat} {kv tv:Value} {B:Bk} {K:List RK}
theorem RM.but {F:Nat→Prop} (h:RM w rp kv tv B K) (hb:But F w w') (h1:¬ F rp) (h2:∀ k,kv.ownBlock=some k→¬ F k) (h3:∀ k,tv.ownBlock=some k→¬ F k):RM w' rp kv tv B K:=⟨h.blk.but hb h1,ownsRow_but h.keys hb h2,ownsRow_but h.toks hb h3⟩
theorem RM.new (h:RM w rp kv tv B K) (hb:But (fun _=>False) w w'):RM w' rp kv tv B K:=h.but hb (fun h=>h) (fun _ _ h=>h) (fun _ _ h=>h)
theorem RM.kne (h:RM w rp kv tv B K):∀ k,kv.ownBlock=some k→k≠rp:=fun k hk e=>own_blk_ne h.keys h.blk (by decide) (e ▸ hk)
theorem RM.tne (h:RM w rp kv tv B K):∀ k,tv.ownBlock=some k→k≠rp:=fun k hk e=>own_blk_ne h.toks h.blk (by decide) (e ▸ hk)
theorem RM.lt (h:RM w rp kv tv B K):rp < w.heap.size:=h.blk.lt
theorem RM.set_ (h:RM w rp kv tv B K) (n:Nat) (u:Value) {B':Bk} (he:(rmcells B kv tv).setIfInBounds n u=rmcells B' kv tv) (h1:B'.toks=B.toks) (h2:B'.id=B.id) (h3:B'.gen=B.gen):RM (w.setCell ⟨rp,n,none⟩ u) rp kv tv B' K∧But (fun k=>k=rp) w (w.setCell ⟨rp,n,none⟩ u):=by
 have hb:But (fun k=>k=rp) w (w.setCell ⟨rp,n,none⟩ u):=(But.refl (fun k=>k=rp) w).setCell (p:=⟨rp,n,none⟩) rfl u
 have h4:=h.blk.set_ n u
 rw [he] at h4
 refine ⟨⟨h4,ownsRow_but h.keys hb (fun k hk e=>h.kne k hk e),?_⟩,hb⟩
 rw [h1,h2,h3]
 exact ownsRow_but h.toks hb (fun k hk e=>h.tne k hk e)
theorem RM.setk (h:RM w rp kv tv B K) {base:Nat} {kv':Value} {K':List RK} (hk:w.ownsRow base 72 7 kv' K'.length (kcl K')):RM (w.setCell ⟨rp,7,none⟩ kv') rp kv' tv B K'∧But (fun k=>k=rp) w (w.setCell ⟨rp,7,none⟩ kv'):=by
 have hb:But (fun k=>k=rp) w (w.setCell ⟨rp,7,none⟩ kv'):=(But.refl (fun k=>k=rp) w).setCell (p:=⟨rp,7,none⟩) rfl kv'
 exact ⟨⟨h.blk.set_ 7 kv',ownsRow_but (own_less hk (Nat.zero_le _)) hb (fun k hh e=>own_blk_ne hk h.blk (by decide) (e ▸ hh)),ownsRow_but h.toks hb (fun k hk e=>h.tne k hk e)⟩,hb⟩
theorem RM.sett (h:RM w rp kv tv B K) {base:Nat} {tv':Value} {ts:List Rgt.Tok} (hk:w.ownsRow base 35 14 tv' ts.length (rcl (ts.map (tokR B.id B.gen)))):RM (w.setCell ⟨rp,8,none⟩ tv') rp kv tv' { B with toks:=ts } K∧But (fun k=>k=rp) w (w.setCell ⟨rp,8,none⟩ tv'):=by
 have hb:But (fun k=>k=rp) w (w.setCell ⟨rp,8,none⟩ tv'):=(But.refl (fun k=>k=rp) w).setCell (p:=⟨rp,8,none⟩) rfl tv'
 exact ⟨⟨h.blk.set_ 8 tv',ownsRow_but h.keys hb (fun k hk e=>h.kne k hk e),ownsRow_but (own_less hk (Nat.zero_le _)) hb (fun k hh e=>own_blk_ne hk h.blk (by decide) (e ▸ hh))⟩,hb⟩
theorem RM.kcell (h:RM w rp kv tv B K) {g c:Nat} (hkv:kv = .slice (some ⟨g,0,none⟩) K.length c) {i:Nat} (hi:i < K.length) {j:Nat} (hj:j < 7):w.cell? ⟨g,i * 7+j,none⟩=(kcs K[i])[j]?:=by
 have h0:=h.keys
 rw [hkv] at h0
 have h1:=h0.cellAt (i * 7+j) (by omega)
 (try rw [Nat.zero_add] at h1)
 rw [h1]
 exact flat_get kcs_length (List.getElem?_eq_getElem hi) hj
theorem RM.tcell (h:RM w rp kv tv B K) {g c:Nat} (htv:tv = .slice (some ⟨g,0,none⟩) B.toks.length c) {i:Nat} (hi:i < B.toks.length) {j:Nat} (hj:j < 14):w.cell? ⟨g,i * 14+j,none⟩=(rcs (tokR B.id B.gen B.toks[i]))[j]?:=by
 have h0:=h.toks
 rw [htv] at h0
 have h1:=h0.cellAt (i * 14+j) (by omega)
 (try rw [Nat.zero_add] at h1)
 rw [h1]
 exact flat_get rcs_length (by rw [List.getElem?_map,List.getElem?_eq_getElem hi];rfl) hj
theorem RM.kform (h:RM w rp kv tv B K):(K=[]∧∃ a c,kv = .slice a 0 c)∨∃ g c,kv = .slice (some ⟨g,0,none⟩) K.length c:=by
 rcases h.keys.2 with ⟨h1,h0⟩|⟨g,cap,cur,h1,_⟩
 ·exact .inl ⟨List.eq_nil_of_length_eq_zero h0,none,0,h1⟩
 ·exact .inr ⟨g,cap,h1⟩
theorem RM.tform (h:RM w rp kv tv B K):(B.toks=[]∧∃ a c,tv = .slice a 0 c)∨∃ g c,tv = .slice (some ⟨g,0,none⟩) B.toks.length c:=by
 rcases h.toks.2 with ⟨h1,h0⟩|⟨g,cap,cur,h1,_⟩
 ·exact .inl ⟨List.eq_nil_of_length_eq_zero h0,none,0,h1⟩
 ·exact .inr ⟨g,cap,h1⟩
theorem find_any (h:RM w rp kv tv B K) (hl:K.length≤100000) (s:ByteArray):Calls Tryz.prog 15 #[.pointer (some ⟨rp,0,none⟩),.string s] w fun e w'=>e = .returned (.tuple #[.int .i64 ((fpl s K:Nat):Int),.bool (fhas s K)])∧But (fun _=>False) w w':=by
 have hq1:=fpl_le s K
 rcases h.kform with ⟨rfl,a,c,rfl⟩|⟨g,c,hkv⟩
 ·have k7:w.cell? ⟨rp,7,none⟩=some (.slice a 0 c):=h.blk.cell 7
  clear h hq1
  go_enter Tryz.func15,Tryz.ntmps15
  go_wp2_with fail
  go_loopw [6] (fun v wr=>v = .int .i64 0∧w=wr) (fun _ _=>0)
  case atStart=>exact ⟨rfl,rfl⟩
  case round =>
   obtain ⟨rfl,rfl⟩:=hrel
   go_wp2
   go_returns
   exact ⟨rfl,But.refl _ _⟩
 ·have HK:=Lib.hid (fun i (hi:i < K.length)=>show w.cell? ⟨g,i * 7,none⟩=some (.string (K[i]).key) from h.kcell hkv hi (j:=0) (by omega))
  have HB:=Lib.hid (fun i (hi:i < K.length) (hq:i < fpl s K)=>fpl_get (s:=s) hi hq)
  have HA:=Lib.hid (fun (hi:fpl s K < K.length)=>fpl_at (s:=s) hi)
  have HF:=Lib.hid (show ∀ (i:Nat) (hi:i < K.length),i=fpl s K→fhas s K=((K[i]).key.toList == s.toList) from fun i hi he=>by
   subst he
   rw [str_beq,Bool.eq_iff_iff,fhas_at]
   simp [hi])
  have HN:=Lib.hid (show fpl s K=K.length→fhas s K=false from fun he=>by
   cases hb:fhas s K with
   | false=>rfl
   | true=>obtain ⟨h1,_⟩:=fhas_at.1 hb;omega)
  have k7:w.cell? ⟨rp,7,none⟩=some (.slice (some ⟨g,0,none⟩) K.length c):=by rw [← hkv];exact h.blk.cell 7
  have HD:=Lib.hid (fun j=>show (w.drewN j).cell? ⟨rp,7,none⟩=some (.slice (some ⟨g,0,none⟩) K.length c) from k7)
  obtain ⟨q,hq⟩:∃ q,q=fpl s K:=⟨_,rfl⟩
  obtain ⟨b,hb⟩:∃ b,b=fhas s K:=⟨_,rfl⟩
  rw [← hq] at HB HA HF HN hq1 ⊢
  rw [← hb] at HF HN ⊢
  obtain ⟨n,hn⟩:∃ n,n=K.length:=⟨_,rfl⟩
  have HLN:=Lib.hid hn
  rw [← hn] at HN hq1 k7 hl HD
  clear h hkv hq hb hn
  go_enter Tryz.func15,Tryz.ntmps15
  go_wp2_with fail
  go_loopw [6] (fun v wr=>∃ i:Nat,i≤q∧v = .int .i64 (i:Int)∧w=wr) (fun v _=>n - (intOf v).toNat)
  case atStart=>exact ⟨0,by omega,rfl,rfl⟩
  case round =>
   obtain ⟨i,hi,rfl,rfl⟩:=hrel
   by_cases hin:i < n
   ·have hini:(i:Int) < (n:Int):=by omega
    have hiK:i < K.length:=by rw [← HLN.out];exact hin
    have c0:=HK.out i hiK
    by_cases hiq:i < q
    ·have hlt:=HB.out i hiK hiq
     obtain ⟨x,hx⟩:∃ x,x=(K[i]).key:=⟨_,rfl⟩
     rw [← hx] at c0 hlt
     have hlt2:Op.bytesLess x.toList s.toList=true:=hlt
     clear hx hlt
     go_wp2
     go_roundw
     case rel=>exact ⟨i+1,by omega,by go_num,by first|trivial|rfl⟩
     case measure=>(simp [intOf] <;> omega)
    ·have hqi:i=q:=by omega
     have hlt:=HA.out (by rw [← hqi];exact hiK)
     have hbx:=HF.out i hiK hqi
     simp only [← hqi] at hlt
     obtain ⟨x,hx⟩:∃ x,x=(K[i]).key:=⟨_,rfl⟩
     rw [← hx] at c0 hlt hbx
     have hlt2:Op.bytesLess x.toList s.toList=false:=hlt
     have hni:¬ (i:Int)=(n:Int):=by omega
     have HBX:=Lib.hid (And.intro hbx hqi)
     have k7':=HD.out
     have c0':∀ j,(w.drewN j).cell? ⟨g,i * 7,none⟩=some (.string x):=fun j=>c0
     clear hx hlt hbx hqi
     go_wp2_with fail
     go_quiet (fail)
     go_wp2
     go_returns
     exact ⟨by rw [HBX.out.1,← HBX.out.2];rfl,(But.refl _ w).drewN nq⟩
   ·have hini:¬ (i:Int) < (n:Int):=by omega
    have hni:(i:Int)=(n:Int):=by omega
    have hqn:q=n:=by omega
    have HB0:=Lib.hid (HN.out hqn)
    have HQN:=Lib.hid hqn
    clear hqn
    go_wp2
    go_returns
    exact ⟨by rw [HB0.out,HQN.out];rfl,But.refl _ _⟩
end
end Go.Proofs.YtgjofinbdigmcaaGreat.Buk
end
section
namespace Go.Proofs.YtgjofinbdigmcaaGreat.Rgt
open Go.Proofs.YtgjofinbdigmcaaGreat.Mem
open Go.ChangeShapes Go.WideShapes Go.ChangeAt Go.RowKit
def plc (s:Nat):List Tok→Nat
 | []=>0
 | y :: T=>if y.s < s then plc s T+1 else 0
theorem plc_le (s:Nat):∀ T:List Tok,plc s T≤T.length
 | []=>Nat.le_refl _
 | y :: T=>by
  have:=plc_le s T
  unfold plc
  split <;> simp <;> omega
theorem plc_below (s:Nat):∀ {T:List Tok} {i:Nat} (h:i < T.length),i < plc s T→T[i].s < s
 | [],i,h,_=>by simp at h
 | y :: T,i,h,hi=>by
  unfold plc at hi
  split at hi
  ·next hy =>
   cases i with
   | zero=>exact hy
   | succ i =>
    have h1:i < T.length:=by simpa using h
    have h2:i < plc s T:=by omega
    exact plc_below s h1 h2
  ·omega
theorem plc_at (s:Nat):∀ {T:List Tok} (h:plc s T < T.length),¬ T[plc s T].s < s
 | [],h=>by simp at h
 | y :: T,h=>by
  by_cases hy:y.s < s
  ·have e:plc s (y :: T)=plc s T+1:=by rw [plc,if_pos hy]
   simp only [e,List.getElem_cons_succ]
   exact plc_at s (by rw [e] at h;simpa using h)
  ·have e:plc s (y :: T)=0:=by rw [plc,if_neg hy]
   simp only [e,List.getElem_cons_zero]
   exact hy
theorem plc_look {s:Nat}:∀ {T:List Tok},Ris T→((look s T).isSome=true ↔ ∃ h:plc s T < T.length,T[plc s T].s=s)
 | [],_=>by simp [look,plc]
 | y :: T,hT=>by
  have hp:=List.pairwise_cons.1 hT
  by_cases hy:y.s < s
  ·have e:plc s (y :: T)=plc s T+1:=by rw [plc,if_pos hy]
   have el:look s (y :: T)=look s T:=by rw [look,if_neg (by omega)]
   simp only [e,el,List.getElem_cons_succ,List.length_cons,Nat.add_lt_add_iff_right]
   exact plc_look hp.2
  ·have e:plc s (y :: T)=0:=by rw [plc,if_neg hy]
   simp only [e,List.getElem_cons_zero]
   rw [look_has hT]
   constructor
   ·rintro ⟨x,hx,rfl⟩
    rcases List.mem_cons.1 hx with rfl|hx
    ·exact ⟨by simp,rfl⟩
    ·have:=hp.1 x hx;omega
   ·rintro ⟨_,h⟩
    exact ⟨y,List.mem_cons_self ..,h⟩
theorem del_plc {s:Nat}:∀ {T:List Tok},Ris T→(look s T).isSome=true→T.take (plc s T)++T.drop (plc s T+1)=del s T
 | [],_,h=>by simp [look] at h
 | y :: T,hT,h=>by
  have hp:=List.pairwise_cons.1 hT
  by_cases hy:y.s < s
  ·rw [plc,if_pos hy,del,if_neg (by omega)]
   simp only [List.take_succ_cons,List.drop_succ_cons,List.cons_append]
   rw [del_plc hp.2 (by rwa [look,if_neg (by omega)] at h)]
  ·have hs:y.s=s:=by
    rw [look_has hT] at h
    obtain ⟨x,hx,rfl⟩:=h
    rcases List.mem_cons.1 hx with rfl|hx
    ·rfl
    ·have:=hp.1 x hx;omega
   rw [plc,if_neg hy,del,if_pos hs]
   simp
theorem del_none {s:Nat}:∀ {T:List Tok},look s T=none→del s T=T
 | [],_=>rfl
 | y :: T,h=>by
  have hn:=look_none h y (List.mem_cons_self ..)
  rw [del,if_neg hn,del_none (by rwa [look,if_neg hn] at h)]
theorem put_plc {x:Tok}:∀ {T:List Tok},Ris T→T.take (plc x.s T)++[x]++T.drop (plc x.s T+(if (look x.s T).isSome then 1 else 0))=put x T
 | [],_=>rfl
 | y :: T,hT=>by
  have hp:=List.pairwise_cons.1 hT
  by_cases hy:y.s < x.s
  ·have el:look x.s (y :: T)=look x.s T:=by rw [look,if_neg (by omega)]
   have ep:put x (y :: T)=y :: put x T:=by rw [put,if_neg (by omega),if_neg (by omega)]
   rw [plc,if_pos hy,ep,el,← put_plc hp.2,show plc x.s T+1+(if (look x.s T).isSome=true then 1 else 0)=(plc x.s T+(if (look x.s T).isSome=true then 1 else 0))+1 by omega]
   simp
  ·rw [plc,if_neg hy]
   by_cases hs:x.s=y.s
   ·have el:look x.s (y :: T)=some y:=by rw [look,if_pos hs.symm]
    have ep:put x (y :: T)=x :: T:=by rw [put,if_neg (by omega),if_pos hs]
    rw [el,ep]
    simp
   ·have hlt:x.s < y.s:=by omega
    have el:look x.s (y :: T)=none:=look_less (fun z hz=>by
     rcases List.mem_cons.1 hz with rfl|hz
     ·exact hlt
     ·have:=hp.1 z hz;omega)
    have ep:put x (y :: T)=x :: y :: T:=by rw [put,if_pos hlt]
    rw [el,ep]
    simp
end Go.Proofs.YtgjofinbdigmcaaGreat.Rgt
end

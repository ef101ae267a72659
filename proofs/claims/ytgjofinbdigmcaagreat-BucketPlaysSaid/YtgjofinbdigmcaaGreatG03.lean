/- A region that draws its order, with a fact of the world that holds behind each of its operations but the late ones: those that wait for whatever is taken first by that fact (a statement's own store, which comes last). So loads of the very cell that the statement writes may be taken first. The program's table in memory, and contracts of its calls that only look. Contracts of the program's table's calls that only look: home, next, steps, isTight, find. The program's search for a key: where it lies, or would. -/
import Derived.Test.YtgjofinbdigmcaaGreatG01
import Derived.Deep.RegionHeld
import Derived.Test.YtgjofinbdigmcaaGreatG02
import Derived.WalkKit
import Derived.Deep.QuietTactic
import Derived.BigQuiet
set_option linter.unusedSimpArgs false
set_option linter.unusedVariables false
set_option maxHeartbeats 1000000
set_option maxRecDepth 100000
section
namespace Go.Proofs.YtgjofinbdigmcaaGreat.Late
section
variable {P:Program} {ops:Array Oper} {Q:Exit→Act→World→Prop} {S:World→Prop} {late:Nat→Bool}
def Goes (P:Program) (ops:Array Oper) (Q:Exit→Act→World→Prop) (S:World→Prop) (late:Nat→Bool):Nat→Array Bool→Act→World→Prop
 | 0,li,a,w=>Region.ready .any ops li=[]∧Q .normal a w
 | n+1,li,a,w=>(Region.ready .any ops li=[]→Q .normal a w) ∧
   ∀ j,j ∈ Region.ready .any ops li→wpOp P ops Q j (fun b u=>(late j=false→S u)∧Goes P ops Q S late n (li.setIfInBounds j true) b u) a w
theorem Goes.any:∀ {n:Nat} {li:Array Bool} {a:Act} {w:World},Goes P ops Q S late n li a w→wpAny P .any ops Q n li a w
 | 0,_,_,_,h=>h
 | _+1,_,_,_,h=>⟨h.1,fun j hj=>wpOp_mono (fun _ _ k=>k.2.any) (h.2 j hj)⟩
def waits (ops:Array Oper) (late:Nat→Bool) (i:Nat):Bool :=
 (List.range ops.size).all fun j=>j == i || !late j || ((ops[j]?.map fun o=>o.after.any fun e=>Region.binds .any e && e.on == i).getD true)
theorem waits_spec {i j:Nat} {o:Oper} (h:waits ops late i=true) (hj:ops[j]?=some o) (hne:j≠i) (hl:late j=true):∃ e ∈ o.after,Region.binds .any e=true∧e.on=i:=by
 have h1:=List.all_eq_true.1 h j (List.mem_range.2 (Array.getElem?_eq_some_iff.1 hj).1)
 simp only [hj,hl,Option.map_some,Option.getD_some,Bool.not_true,Bool.or_false,Bool.or_eq_true,beq_iff_eq] at h1
 obtain ⟨k,hk,h2⟩:∃ k,∃ h:k < o.after.size,Region.binds .any o.after[k]=true∧o.after[k].on=i:=by simpa using h1.resolve_left hne
 exact ⟨_,Array.getElem_mem hk,h2⟩
theorem unbound {i j:Nat} {o:Oper} {li:Array Bool} (hi:i ∈ Region.ready .any ops li) (hj:j ∈ Region.ready .any ops li) (ho:ops[j]?=some o):∀ e ∈ o.after,Region.binds .any e=true→e.on≠i:=by
 intro e he hb heq
 obtain ⟨_,o',ho',hall⟩:=mem_ready.1 hj
 rw [ho] at ho'
 injection ho' with ho'
 subst ho'
 have h1:=hall e he hb
 have h0:=(mem_ready.1 hi).1
 rw [heq] at h1
 simp only [Array.getD_eq_getD_getElem?] at h0 h1
 cases hk:li[i]? with
 | none=>rw [hk] at h1;cases h1
 | some b =>
  rw [hk] at h0 h1
  simp only [Option.getD_some] at h0 h1
  rw [h0] at h1;cases h1
theorem Goes.first {i:Nat} {oi:Oper} {v:Value} (hi:ops[i]?=some oi) (hs:Region.noSelect ops=true) (hw:waits ops late i=true) (hQ:∀ c a w,Q (.panic c) (a.put oi.dst v) w→Q (.panic c) a w) (n:Nat) :
  ∀ (li:Array Bool) (a:Act) (w:World),(∀ j o,ops[j]?=some o→j≠i→li.getD j true=false→(∀ e ∈ o.after,Region.binds .any e=true→e.on≠i)→oi.apart ops o=true) →
   i ∈ Region.ready .any ops li→YieldsIf P ops S oi v a→S w→Goes P ops Q S late n (li.setIfInBounds i true) (a.put oi.dst v) w→Goes P ops Q S late (n+1) li a w:=by
 induction n with
 | zero =>
  intro li a w _ hr hy hS H
  refine ⟨fun h=>absurd hr (by rw [h];exact List.not_mem_nil),fun j hj=>?_⟩
  by_cases e:j=i
  ·rw [e];exact hy.wpOp hi hS ⟨fun _=>hS,H⟩
  ·have:=ready_mono hj e
   rw [H.1] at this
   cases this
 | succ n ih =>
  intro li a w hfr hr hy hS H
  refine ⟨fun h=>absurd hr (by rw [h];exact List.not_mem_nil),fun j hj=>?_⟩
  by_cases e:j=i
  ·rw [e];exact hy.wpOp hi hS ⟨fun _=>hS,H⟩
  ·obtain ⟨hun,o,ho,_⟩:=mem_ready.1 hj
   have hub:=unbound hr hj ho
   have hnl:late j=false:=by
    cases hl:late j with
    | false=>rfl
    | true =>
     obtain ⟨x,hx,hb,hx2⟩:=waits_spec hw ho e hl
     exact (hub x hx hb hx2).elim
   have k:=wpOp_putIf ho (hfr j o ho e hun hub) (fun cs b=>Region.noSelect_spec hs i oi cs b hi) (fun cs b=>Region.noSelect_spec hs j o cs b ho) hQ hy (H.2 j (ready_mono hj e))
   refine wpOp_mono (fun b u k2=>⟨k2.2.1,ih _ b u (fun x ox hx hne hx2 hx3=>hfr x ox hx hne ?_ hx3) (ready_mono hr (Ne.symm e)) k2.1 (k2.2.1 hnl) ?_⟩) k
   ·by_cases e2:j=x
    ·exact e2 ▸ hun
    ·rwa [getD_set_ne true e2] at hx2
   ·rw [Array.setIfInBounds_comm _ _ e]
    exact k2.2.2
theorem Goes.take {i:Nat} {oi:Oper} {v:Value} {n:Nat} {li:Array Bool} {a:Act} {w:World} (hi:ops[i]?=some oi) (hs:Region.noSelect ops=true) (hf:Region.free .any ops li i=true) (hr:(Region.ready .any ops li).contains i=true)
  (hw:waits ops late i=true) (hQ:∀ c a w,Q (.panic c) (a.put oi.dst v) w→Q (.panic c) a w) (hy:YieldsIf P ops S oi v a) (hS:S w)
  (h:Goes P ops Q S late n (li.setIfInBounds i true) (a.put oi.dst v) w):Goes P ops Q S late (n+1) li a w :=
 Goes.first hi hs hw hQ n li a w (Region.free_spec hi hf) (by simpa using hr) hy hS h
def Closed (ops:Array Oper) (li:Array Bool):Prop:=∀ j o,ops[j]?=some o→li.getD j false=true→∀ e ∈ o.after,Region.binds .any e=true→li.getD e.on false=true
def closed (ops:Array Oper) (li:Array Bool):Bool :=
 (List.range ops.size).all fun j => !(li.getD j false) || ((ops[j]?.map fun o=>o.after.all fun e => !(Region.binds .any e) || li.getD e.on false).getD true)
theorem closed_spec {li:Array Bool} (h:closed ops li=true):Closed ops li:=by
 intro j o hj hl e he hb
 have h1:=List.all_eq_true.1 h j (List.mem_range.2 (Array.getElem?_eq_some_iff.1 hj).1)
 simp only [hj,hl,Option.map_some,Option.getD_some,Bool.not_true,Bool.false_or] at h1
 obtain ⟨k,hk,rfl⟩:=Array.mem_iff_getElem.1 he
 have h2:∀ i (h:i < o.after.size),(!(Region.binds .any o.after[i]) || li.getD o.after[i].on false)=true:=by simpa using h1
 have h3:=h2 k hk
 rw [hb] at h3
 simpa using h3
def dep (ops:Array Oper) (i:Nat):Nat→Nat→Bool
 | 0,_=>false
 | n+1,j=>(ops[j]?.map fun o=>o.after.any fun e=>Region.binds .any e && (e.on == i || dep ops i n e.on)).getD false
theorem dep_spec {i:Nat} {li:Array Bool} (hc:Closed ops li) (hi:li.getD i false=false):∀ (n j:Nat) (o:Oper),ops[j]?=some o→dep ops i n j=true→∃ e ∈ o.after,Region.binds .any e=true∧li.getD e.on false=false
 | 0,j,o,hj,h=>by cases h
 | n+1,j,o,hj,h=>by
  unfold dep at h
  rw [hj] at h
  simp only [Option.map_some,Option.getD_some] at h
  obtain ⟨k,hk,h1,h2⟩:∃ k,∃ h:k < o.after.size,Region.binds .any o.after[k]=true∧(o.after[k].on=i∨dep ops i n o.after[k].on=true):=by simpa using h
  refine ⟨_,Array.getElem_mem hk,h1,?_⟩
  rcases h2 with h2|h2
  ·rw [h2];exact hi
  ·cases hq:ops[o.after[k].on]? with
   | none =>
    cases n with
    | zero=>cases h2
    | succ n=>unfold dep at h2;rw [hq] at h2;cases h2
   | some o' =>
    obtain ⟨e,he,hb,h3⟩:=dep_spec hc hi n _ o' hq h2
    cases h4:li.getD o.after[k].on false with
    | false=>rfl
    | true=>rw [hc _ o' hq h4 e he hb] at h3;cases h3
def waitsT (ops:Array Oper) (late:Nat→Bool) (i:Nat):Bool:=(List.range ops.size).all fun j=>j == i || !late j || dep ops i 12 j
theorem ready_done {j:Nat} {o:Oper} {li:Array Bool} (hj:j ∈ Region.ready .any ops li) (ho:ops[j]?=some o):∀ e ∈ o.after,Region.binds .any e=true→li.getD e.on false=true:=by
 intro e he hb
 obtain ⟨_,o',ho',hall⟩:=mem_ready.1 hj
 rw [ho] at ho'
 injection ho' with ho'
 subst ho'
 exact hall e he hb
theorem closed_set {j:Nat} {li:Array Bool} (hc:Closed ops li) (hj:j ∈ Region.ready .any ops li):Closed ops (li.setIfInBounds j true):=by
 have hup:∀ k,li.getD k false=true→(li.setIfInBounds j true).getD k false=true:=by
  intro k hk
  simp only [Array.getD_eq_getD_getElem?,Array.getElem?_setIfInBounds] at hk ⊢
  split
  ·split
   ·rfl
   ·rename_i h1 h2
    rw [← h1,Array.getElem?_eq_none (by omega)] at hk
    cases hk
  ·exact hk
 intro k o ho hk e he hb
 by_cases hkj:k=j
 ·subst hkj
  exact hup _ (ready_done hj ho e he hb)
 ·refine hup _ (hc k o ho ?_ e he hb)
  simp only [Array.getD_eq_getD_getElem?,Array.getElem?_setIfInBounds,if_neg (Ne.symm hkj)] at hk ⊢
  exact hk
theorem Goes.firstT {i:Nat} {oi:Oper} {v:Value} (hi:ops[i]?=some oi) (hs:Region.noSelect ops=true) (hw:waitsT ops late i=true) (hQ:∀ c a w,Q (.panic c) (a.put oi.dst v) w→Q (.panic c) a w) (n:Nat) :
  ∀ (li:Array Bool) (a:Act) (w:World),Closed ops li→(∀ j o,ops[j]?=some o→j≠i→li.getD j true=false→(∀ e ∈ o.after,Region.binds .any e=true→e.on≠i)→oi.apart ops o=true) →
   i ∈ Region.ready .any ops li→YieldsIf P ops S oi v a→S w→Goes P ops Q S late n (li.setIfInBounds i true) (a.put oi.dst v) w→Goes P ops Q S late (n+1) li a w:=by
 induction n with
 | zero =>
  intro li a w _ _ hr hy hS H
  refine ⟨fun h=>absurd hr (by rw [h];exact List.not_mem_nil),fun j hj=>?_⟩
  by_cases e:j=i
  ·rw [e];exact hy.wpOp hi hS ⟨fun _=>hS,H⟩
  ·have:=ready_mono hj e
   rw [H.1] at this
   cases this
 | succ n ih =>
  intro li a w hcl hfr hr hy hS H
  refine ⟨fun h=>absurd hr (by rw [h];exact List.not_mem_nil),fun j hj=>?_⟩
  by_cases e:j=i
  ·rw [e];exact hy.wpOp hi hS ⟨fun _=>hS,H⟩
  ·obtain ⟨hun,o,ho,_⟩:=mem_ready.1 hj
   have hub:=unbound hr hj ho
   have hi0:li.getD i false=false:=by
    have h0:=(mem_ready.1 hr).1
    simp only [Array.getD_eq_getD_getElem?] at h0 ⊢
    cases hk:li[i]? with
    | none=>rfl
    | some b=>rw [hk] at h0;exact h0
   have hnl:late j=false:=by
    cases hl:late j with
    | false=>rfl
    | true =>
     have h1:=List.all_eq_true.1 hw j (List.mem_range.2 (Array.getElem?_eq_some_iff.1 ho).1)
     simp only [hl,Bool.not_true,Bool.or_false,Bool.or_eq_true,beq_iff_eq] at h1
     obtain ⟨x,hx,hb,hx2⟩:=dep_spec hcl hi0 _ j o ho (h1.resolve_left e)
     rw [ready_done hj ho x hx hb] at hx2
     cases hx2
   have k:=wpOp_putIf ho (hfr j o ho e hun hub) (fun cs b=>Region.noSelect_spec hs i oi cs b hi) (fun cs b=>Region.noSelect_spec hs j o cs b ho) hQ hy (H.2 j (ready_mono hj e))
   refine wpOp_mono (fun b u k2=>⟨k2.2.1,ih _ b u (closed_set hcl hj) (fun x ox hx hne hx2 hx3=>hfr x ox hx hne ?_ hx3) (ready_mono hr (Ne.symm e)) k2.1 (k2.2.1 hnl) ?_⟩) k
   ·by_cases e2:j=x
    ·exact e2 ▸ hun
    ·rwa [getD_set_ne true e2] at hx2
   ·rw [Array.setIfInBounds_comm _ _ e]
    exact k2.2.2
theorem Goes.takeT {i:Nat} {oi:Oper} {v:Value} {n:Nat} {li:Array Bool} {a:Act} {w:World} (hi:ops[i]?=some oi) (hs:Region.noSelect ops=true) (hf:Region.free .any ops li i=true) (hr:(Region.ready .any ops li).contains i=true)
  (hw:waitsT ops late i=true) (hc:closed ops li=true) (hQ:∀ c a w,Q (.panic c) (a.put oi.dst v) w→Q (.panic c) a w) (hy:YieldsIf P ops S oi v a) (hS:S w)
  (h:Goes P ops Q S late n (li.setIfInBounds i true) (a.put oi.dst v) w):Goes P ops Q S late (n+1) li a w :=
 Goes.firstT hi hs hw hQ n li a w (closed_spec hc) (Region.free_spec hi hf) (by simpa using hr) hy hS h
def okT (ops:Array Oper) (late:Nat→Bool) (li:Array Bool) (i:Nat):Bool:=Region.noSelect ops && Region.free .any ops li i && (Region.ready .any ops li).contains i && waitsT ops late i && closed ops li
theorem tk (i:Nat) (v:Value) {oi:Oper} {n:Nat} {li:Array Bool} {a:Act} {w:World} (hy:∀ w,S w→(execOp a.eval oi).run P w = .ok (.value v) w) (hS:S w)
  (h:Goes P ops Q S late n (li.setIfInBounds i true) (a.put oi.dst v) w)
  (hi:ops[i]?=some oi:=by simp only [List.getElem?_toArray,List.getElem?_cons_succ,List.getElem?_cons_zero];rfl)
  (hc:okT ops late li i=true:=by kernel_rfl) (hw:Region.wanted oi (yielded ops a.tmps)=true:=by rfl)
  (hQ:∀ c a w,Q (.panic c) (a.put oi.dst v) w→Q (.panic c) a w:=by exact fun _ _ _ h=>h):Goes P ops Q S late (n+1) li a w:=by
 simp only [okT,Bool.and_eq_true] at hc
 exact Goes.takeT hi hc.1.1.1.1 hc.1.1.1.2 hc.1.1.2 hc.1.2 hc.2 hQ (.inl ⟨hw,hy⟩) hS h
theorem tn (i:Nat) {oi:Oper} {n:Nat} {li:Array Bool} {a:Act} {w:World} (hS:S w)
  (h:Goes P ops Q S late n (li.setIfInBounds i true) (a.put oi.dst undef) w)
  (hi:ops[i]?=some oi:=by simp only [List.getElem?_toArray,List.getElem?_cons_succ,List.getElem?_cons_zero];rfl)
  (hc:okT ops late li i=true:=by kernel_rfl) (hw:Region.wanted oi (yielded ops a.tmps)=false:=by rfl)
  (hQ:∀ c a w,Q (.panic c) (a.put oi.dst undef) w→Q (.panic c) a w:=by exact fun _ _ _ h=>h):Goes P ops Q S late (n+1) li a w:=by
 simp only [okT,Bool.and_eq_true] at hc
 exact Goes.takeT hi hc.1.1.1.1 hc.1.1.1.2 hc.1.1.2 hc.1.2 hc.2 hQ (.inr ⟨hw,rfl⟩) hS h
theorem Goes.one {i:Nat} {oi:Oper} {n:Nat} {li:Array Bool} {a:Act} {w:World} (hr:Region.ready .any ops li=[i]) (hi:ops[i]?=some oi)
  (h:∀ K:Act→World→Prop,Shut (∀ b u,(late i=false→S u)→((late i=false→S u)→Goes P ops Q S late n (li.setIfInBounds i true) b u)→K b u)→if Region.wanted oi (yielded ops a.tmps)=true then Oper.wp P oi a w K Q else K (a.put oi.dst undef) w) :
  Goes P ops Q S late (n+1) li a w:=by
 refine ⟨fun e=>(by rw [e] at hr;cases hr),fun j hj=>?_⟩
 rw [hr] at hj
 obtain rfl:=List.mem_singleton.1 hj
 exact wpOp_step hi (fun K' hK=>h K' (fun b u hS hG=>hK b u ⟨hS,hG hS⟩))
theorem Goes.two {i j:Nat} {oi oj:Oper} {n:Nat} {li:Array Bool} {a:Act} {w:World} (hr:Region.ready .any ops li=[i,j]) (hi:ops[i]?=some oi) (hj:ops[j]?=some oj)
  (h1:∀ K:Act→World→Prop,Shut (∀ b u,(late i=false→S u)→((late i=false→S u)→Goes P ops Q S late n (li.setIfInBounds i true) b u)→K b u)→if Region.wanted oi (yielded ops a.tmps)=true then Oper.wp P oi a w K Q else K (a.put oi.dst undef) w)
  (h2:∀ K:Act→World→Prop,Shut (∀ b u,(late j=false→S u)→((late j=false→S u)→Goes P ops Q S late n (li.setIfInBounds j true) b u)→K b u)→if Region.wanted oj (yielded ops a.tmps)=true then Oper.wp P oj a w K Q else K (a.put oj.dst undef) w) :
  Goes P ops Q S late (n+1) li a w:=by
 refine ⟨fun e=>(by rw [e] at hr;cases hr),fun k hk=>?_⟩
 rw [hr] at hk
 rcases List.mem_cons.1 hk with rfl|hk
 ·exact wpOp_step hi (fun K' hK=>h1 K' (fun b u hS hG=>hK b u ⟨hS,hG hS⟩))
 ·obtain rfl:=List.mem_singleton.1 hk
  exact wpOp_step hj (fun K' hK=>h2 K' (fun b u hS hG=>hK b u ⟨hS,hG hS⟩))
theorem Goes.done {li:Array Bool} {a:Act} {w:World} (hr:Region.ready .any ops li=[]) (h:Q .normal a w):∀ n,Goes P ops Q S late n li a w
 | 0=>⟨hr,h⟩
 | _+1=>⟨fun _=>h,fun j hj=>by rw [hr] at hj;cases hj⟩
theorem region_goes {id:Nat} {a:Act} {w:World} (S:World→Prop) (late:Nat→Bool) (hm:P.follows .mixedOrders=true) (hS:S w.drew)
  (h:S w.drew→Goes P ops Q S late ops.size (Array.replicate ops.size false) a w.drew):(Code.region id ops true).wp P Q a w :=
 wp_region_any hm (h hS).any
end
end Go.Proofs.YtgjofinbdigmcaaGreat.Late
end
section
namespace Go.Proofs.YtgjofinbdigmcaaGreat.Key
open Go.Proofs.YtgjofinbdigmcaaGreat.Mem Go.Proofs.YtgjofinbdigmcaaGreat.Fnv
open Go.ChangeShapes Go.WideShapes Go.ChangeAt Go.RowKit
def nothing:ByteArray:=⟨#[]⟩
def zero:Ent:=⟨nothing,0,0,0,0,0,0⟩
def ecells (e:Ent):List Value:=[.string e.key,.int .i64 e.seg,.int .i64 e.at_,.int .i64 e.len,.int .u64 (e.ver:Int),.int .u64 (e.exp:Int),.int .i64 e.size]
def pcells:Option Ent→List Value
 | none => .bool false :: ecells zero
 | some e => .bool true :: ecells e
def ent (o:Option Ent):Ent:=o.getD zero
theorem pcells_eq (o:Option Ent):pcells o = .bool o.isSome :: ecells (ent o):=by cases o <;> rfl
theorem pcells_length (o:Option Ent):(pcells o).length=8:=by cases o <;> rfl
def rowT (T:Tab):List Value:=T.flatMap pcells
theorem flat_length {α:Type} {f:α→List Value} {k:Nat} (hf:∀ x,(f x).length=k):∀ l:List α,(l.flatMap f).length=l.length * k
 | []=>by simp
 | x :: r=>by
  rw [List.flatMap_cons,List.length_append,hf,flat_length hf r,List.length_cons,Nat.add_mul]
  omega
theorem flat_get {α:Type} {f:α→List Value} {k:Nat} (hf:∀ x,(f x).length=k):∀ {l:List α} {i j:Nat} {x:α},l[i]?=some x→j < k→(l.flatMap f)[i * k+j]?=(f x)[j]?
 | [],i,j,x,h,_=>by simp at h
 | y :: r,i,j,x,h,hj=>by
  rw [List.flatMap_cons]
  cases i with
  | zero =>
   simp at h
   subst h
   rw [Nat.zero_mul,Nat.zero_add,List.getElem?_append_left (by rw [hf];exact hj)]
  | succ i =>
   have ih:=flat_get hf (l:=r) (i:=i) (j:=j) (x:=x) (by simpa using h) hj
   rw [List.getElem?_append_right (by rw [hf,Nat.add_mul];omega),hf,Nat.add_mul,show i * k+1 * k+j - k=i * k+j by omega]
   exact ih
theorem look_some {T:Tab} {i:Nat} (h:i < T.length):T[i]?=some (look T i):=by simp [look,List.getD,h]
theorem rowT_get {T:Tab} {i j:Nat} (h:i < T.length) (hj:j < 8):(rowT T)[i * 8+j]?=(pcells (look T i))[j]?:=flat_get pcells_length (look_some h) hj
structure Is (e:Ent):Prop where
 key:e.key.size≤9223372036854775807
 seg : -9223372036854775808≤e.seg∧e.seg≤9223372036854775807
 at_ : -9223372036854775808≤e.at_∧e.at_≤9223372036854775807
 len : -9223372036854775808≤e.len∧e.len≤9223372036854775807
 ver:e.ver < 18446744073709551616
 exp:e.exp < 18446744073709551616
 size : -9223372036854775808≤e.size∧e.size≤9223372036854775807
structure KAt (w:World) (p g:Nat) (T:Tab) (i kn:Nat):Prop where
 blk:Blk w p 94 #[.slice (some ⟨g,0,none⟩) T.length T.length,.int .i64 (kn:Int)]
 row:Blk w g 118 (rowT T).toArray
 good:Good T i
 small:∀ e,some e ∈ T→e.key.size≤200
 few:i≤400
section
variable {w w':World} {p g i kn:Nat} {T:Tab}
theorem KAt.but {F:Nat→Prop} (h:KAt w p g T i kn) (hb:But F w w') (h1:¬ F p) (h2:¬ F g):KAt w' p g T i kn:=⟨h.blk.but hb h1,h.row.but hb h2,h.good,h.small,h.few⟩
theorem KAt.lt (h:KAt w p g T i kn):T.length≤4000∧8≤T.length:=⟨by have:=h.good.size;have:=h.few;omega,h.good.eight⟩
theorem Blk.cells {b:Nat} {t:TypeId} (h:Blk w b t (rowT T).toArray) {k:Nat} (hk:k < T.length) :
  w.cell? ⟨b,k * 8,none⟩=some (.bool (look T k).isSome)∧w.cell? ⟨b,k * 8+1,none⟩=some (.string (ent (look T k)).key)∧w.cell? ⟨b,k * 8+2,none⟩=some (.int .i64 (ent (look T k)).seg)∧w.cell? ⟨b,k * 8+3,none⟩=some (.int .i64 (ent (look T k)).at_)∧w.cell? ⟨b,k * 8+4,none⟩=some (.int .i64 (ent (look T k)).len)∧w.cell? ⟨b,k * 8+5,none⟩=some (.int .u64 ((ent (look T k)).ver:Int))∧w.cell? ⟨b,k * 8+6,none⟩=some (.int .u64 ((ent (look T k)).exp:Int))∧w.cell? ⟨b,k * 8+7,none⟩=some (.int .i64 (ent (look T k)).size):=by
 have e:∀ j,j < 8→w.cell? ⟨b,k * 8+j,none⟩=(pcells (look T k))[j]?:=fun j hj=>by
  rw [h.cell,List.getElem?_toArray];exact rowT_get hk hj
 rw [pcells_eq] at e
 exact ⟨e 0 (by omega),e 1 (by omega),e 2 (by omega),e 3 (by omega),e 4 (by omega),e 5 (by omega),e 6 (by omega),e 7 (by omega)⟩
end
theorem wrap_any {w:World} {p g n:Nat} {u:Value} (c0:w.cell? ⟨p,0,none⟩=some (.slice (some ⟨g,0,none⟩) n n)) (hn:1≤n∧n≤1000000) (x:Nat) (hx:x≤1000000000) :
  Calls Tryz.prog 110 #[.pointer (some ⟨p,0,none⟩),.int .i64 (x:Int)] w fun e w'=>e = .returned (.int .i64 ((x % n:Nat):Int))∧w=w':=by
 have ht:(x:Int).tmod (n:Int)=((x % n:Nat):Int):=by rw [Int.tmod_eq_emod_of_nonneg (by omega)];exact (Int.natCast_emod x n).symm
 have hlt:x % n < n:=Nat.mod_lt _ (by omega)
 obtain ⟨M,hM⟩:∃ M,M=x % n:=⟨_,rfl⟩
 rw [← hM] at ht hlt ⊢
 clear hM
 obtain ⟨hn1,hn2⟩:=hn
 have hz:((n:Int) == 0)=false:=beq_eq_false_iff_ne.2 (by omega)
 go_enter Tryz.func110,Tryz.ntmps110
 go_wp2
 go_ret
 exact ⟨rfl,rfl⟩
end Go.Proofs.YtgjofinbdigmcaaGreat.Key
end
section
namespace Go.Proofs.YtgjofinbdigmcaaGreat.Key
open Go.Proofs.YtgjofinbdigmcaaGreat.Mem Go.Proofs.YtgjofinbdigmcaaGreat.Fnv
open Go.ChangeShapes Go.WideShapes Go.ChangeAt Go.RowKit
section
variable {w:World} {p g i kn:Nat} {T:Tab}
theorem home_nat {n:Nat} (s:ByteArray):homeOf s (n:Int)=((hm n s:Nat):Int):=(Int.natCast_emod _ _).symm
theorem khome_any (h:KAt w p g T i kn) (s:ByteArray) (hs:s.size≤200) :
  Calls Tryz.prog 92 #[.pointer (some ⟨p,0,none⟩),.string s] w fun e w'=>e = .returned (.int .i64 ((hm T.length s:Nat):Int))∧w=w':=by
 have c0:w.cell? ⟨p,0,none⟩=some (.slice (some ⟨g,0,none⟩) T.length T.length):=h.blk.cell 0
 have hp:=h.good.pow30 (by have:=h.few;omega)
 have hc:=home_yes s (by omega) hp w
 rw [home_nat] at hc
 obtain ⟨l1,l2⟩:=h.lt
 have HC:=Lib.hid hc
 clear hc hp h hs
 generalize T.length=n at *
 generalize hm n s=m at *
 go_enter Tryz.func92,Tryz.ntmps92
 go_wp2_with fail
 refine HC.out.mono ?_
 rintro e w' ⟨rfl,rfl⟩
 clear HC
 go_wp2_with fail
 go_ret
 exact ⟨rfl,rfl⟩
theorem knext_any (h:KAt w p g T i kn) (x:Nat) (hx:x≤100000) :
  Calls Tryz.prog 93 #[.pointer (some ⟨p,0,none⟩),.int .i64 (x:Int)] w fun e w'=>e = .returned (.int .i64 (((x+1) % T.length:Nat):Int))∧w=w':=by
 have c0:w.cell? ⟨p,0,none⟩=some (.slice (some ⟨g,0,none⟩) T.length T.length):=h.blk.cell 0
 obtain ⟨l1,l2⟩:=h.lt
 have hc:=wrap_any (u := .bool true) c0 (by omega) (x+1) (by omega)
 obtain ⟨m,hm⟩:∃ m,m=(x+1) % T.length:=⟨_,rfl⟩
 rw [← hm] at hc ⊢
 have HC:=Lib.hid hc
 clear h hc hm
 generalize T.length=n at *
 go_enter Tryz.func93,Tryz.ntmps93
 go_wp2_with fail
 refine HC.out.mono ?_
 rintro e w' ⟨rfl,rfl⟩
 clear HC
 go_wp2_with fail
 go_ret
 exact ⟨rfl,rfl⟩
theorem ktight_any (h:KAt w p g T i (cnt T)) :
  Calls Tryz.prog 79 #[.pointer (some ⟨p,0,none⟩)] w fun e w'=>e = .returned (.bool (decide (tight T)))∧∃ n,w'=w.drewN n:=by
 have c0:=fun n=>show (w.drewN n).cell? ⟨p,0,none⟩=some (.slice (some ⟨g,0,none⟩) T.length T.length) from h.blk.cell 0
 have c1:=fun n=>show (w.drewN n).cell? ⟨p,1,none⟩=some (.int .i64 (cnt T:Int)) from h.blk.cell 1
 obtain ⟨l1,l2⟩:=h.lt
 have hc:=cnt_le T
 have hd:decide (tight T)=decide (3 * (T.length:Int) < 4 * ((cnt T:Int)+1)):=by
  unfold tight
  exact decide_eq_decide.2 ⟨fun _=>by omega,fun _=>by omega⟩
 rw [hd]
 clear h hd
 generalize T.length=n at *
 generalize cnt T=m at *
 obtain ⟨d,hd⟩:∃ d,d=decide (3 * (n:Int) < 4 * ((m:Int)+1)):=⟨_,rfl⟩
 rw [← hd]
 have hd':=hd.symm
 clear hd
 go_enter Tryz.func79,Tryz.ntmps79
 go_wp2
 go_quiet (fail)
 go_wp2
 go_ret
 exact ⟨rfl,_,rfl⟩
end
end Go.Proofs.YtgjofinbdigmcaaGreat.Key
end
section
namespace Go.Proofs.YtgjofinbdigmcaaGreat.Key
open Go.Proofs.YtgjofinbdigmcaaGreat.Mem Go.Proofs.YtgjofinbdigmcaaGreat.Fnv
open Go.ChangeShapes Go.WideShapes Go.ChangeAt Go.RowKit
theorem str_beq (a b:ByteArray):(a.toList == b.toList)=decide (a=b):=by
 rw [ByteArray.toList_eq,ByteArray.toList_eq,Bool.eq_iff_iff]
 obtain ⟨⟨x⟩⟩:=a
 obtain ⟨⟨y⟩⟩:=b
 simp
theorem stops_false {T:Tab} {s:ByteArray} {j:Nat} (h:stops T s j=false):∃ e,look T j=some e∧(e.key.toList == s.toList)=false:=by
 cases hl:look T j with
 | none=>simp [stops,hl] at h
 | some e =>
  rw [stops_key hl] at h
  exact ⟨e,rfl,by rw [str_beq];exact h⟩
theorem stops_true {T:Tab} {s:ByteArray} {j:Nat} (h:stops T s j=true):look T j=none∨∃ e,look T j=some e∧(e.key.toList == s.toList)=true:=by
 cases hl:look T j with
 | none=>exact .inl rfl
 | some e =>
  rw [stops_key hl] at h
  exact .inr ⟨e,rfl,by rw [str_beq];exact h⟩
theorem off_of {n h d:Nat} (hh:h < n) (hd:d < n):((h+d) % n+n - h) % n=d:=by
 rcases Nat.lt_or_ge (h+d) n with h1|h1
 ·rw [Nat.mod_eq_of_lt h1,show h+d+n - h=d+n by omega,Nat.add_mod_right,Nat.mod_eq_of_lt hd]
 ·have h2:(h+d) % n=h+d - n:=by
   rw [Nat.mod_eq_sub_mod h1,Nat.mod_eq_of_lt (by omega)]
  rw [h2,show h+d - n+n - h=d by omega,Nat.mod_eq_of_lt hd]
section
variable {w:World} {p g i kn:Nat} {T:Tab}
theorem kfind_any (h:KAt w p g T i kn) (s:ByteArray) (hs:s.size≤200) :
  Calls Tryz.prog 69 #[.pointer (some ⟨p,0,none⟩),.string s] w fun e w'=>e = .returned (.int .i64 ((find T s:Nat):Int))∧w=w':=by
 have c0:w.cell? ⟨p,0,none⟩=some (.slice (some ⟨g,0,none⟩) T.length T.length):=h.blk.cell 0
 obtain ⟨l1,l2⟩:=h.lt
 have HD:=Lib.hid (dist_free h.good.free s)
 have HH:=Lib.hid (khome_any h s hs)
 have HN:=Lib.hid (knext_any h)
 have HC:=Lib.hid (fun k hk=>Blk.cells h.row (k:=k) hk)
 clear h
 obtain ⟨n,hn⟩:∃ n,n=T.length:=⟨_,rfl⟩
 rw [← hn] at c0 l1 l2 HH HN HC HD
 have HNN:=Lib.hid hn
 clear hn
 go_enter Tryz.func69,Tryz.ntmps69
 go_wp2_with fail
 refine HH.out.mono ?_
 rintro e w' ⟨rfl,rfl⟩
 go_wp2_with fail
 go_loop [5] (fun at_=>∃ d:Nat,d≤dist T s∧at_ = .int .i64 (((hm n s+d) % n:Nat):Int)) (fun at_=>dist T s - (((intOf at_).toNat+n - hm n s) % n))
 case atStart=>exact ⟨0,Nat.zero_le _,by rw [Nat.add_zero,Nat.mod_eq_of_lt (hm_lt (by omega) s)]⟩
 case round =>
  obtain ⟨d,hd,rfl⟩:=hrel
  have hdl:=HD.out
  have hnn:=HNN.out
  have hml:=hm_lt (show 0 < n by omega) s
  have hk:(hm n s+d) % n < n:=Nat.mod_lt _ (by omega)
  obtain ⟨k,hkd⟩:∃ k,k=(hm n s+d) % n:=⟨_,rfl⟩
  rw [← hkd] at hk ⊢
  obtain ⟨a0,a1,-,-,-,-,-,-⟩:=HC.out k hk
  by_cases hdd:d < dist T s
  ·have hst:=dist_before hdd
   rw [← hnn,← hkd] at hst
   obtain ⟨e,hl,hne⟩:=stops_false hst
   rw [hl] at a0 a1
   have e0:w.cell? ⟨g,k * 8,none⟩=some (.bool true):=a0
   have e1:w.cell? ⟨g,k * 8+1,none⟩=some (.string e.key):=a1
   have hoff:=off_of hml (show d < n by omega)
   rw [← hkd] at hoff
   have hnext:(k+1) % n=(hm n s+(d+1)) % n:=by rw [hkd,Nat.mod_add_mod,Nat.add_assoc]
   have hoff2:=off_of hml (show d+1 < n by omega)
   rw [← hnext] at hoff2
   have HX:=Lib.hid (HN.out k (by omega))
   have HNX:=Lib.hid hnext
   have HOFF:=Lib.hid hoff
   have HOFF2:=Lib.hid hoff2
   have HDD:=Lib.hid hdd
   clear a0 a1 HH HN HC HD hst hl hoff hoff2 hnext hkd hd hdl hdd HNN hnn
   go_wp2_with fail
   refine HX.out.mono ?_
   rintro e' w' ⟨rfl,rfl⟩
   have hm3:=Nat.mod_lt (k+1) (show 0 < n by omega)
   obtain ⟨k',hk'⟩:∃ k',k'=(k+1) % n:=⟨_,rfl⟩
   rw [← hk'] at hm3 HNX HOFF2 ⊢
   clear hk' HX
   go_wp2_with fail
   go_round
   case rel=>exact ⟨d+1,HDD.out,by rw [← HNX.out]⟩
   case measure=>simp only [intOf,Int.toNat_natCast];rw [HOFF.out,HOFF2.out];have:=HDD.out;omega
  ·have hde:d=dist T s:=by omega
   have hfd:find T s=k:=by rw [find,← hnn,← hde,← hkd]
   have hst:stops T s k=true:=by rw [← hfd];exact dist_stops (by omega)
   have HF:=Lib.hid hfd
   clear HH HN HD hkd hfd hd hde hdd hdl hnn
   rcases stops_true hst with hl|⟨e,hl,heq⟩
   ·rw [hl] at a0
    have e0:w.cell? ⟨g,k * 8,none⟩=some (.bool false):=a0
    clear a0 a1 HC hst hl
    go_wp2_with fail
    go_ret
    exact ⟨by rw [HF.out];rfl,rfl⟩
   ·rw [hl] at a0 a1
    have e0:w.cell? ⟨g,k * 8,none⟩=some (.bool true):=a0
    have e1:w.cell? ⟨g,k * 8+1,none⟩=some (.string e.key):=a1
    clear a0 a1 HC hst hl
    go_wp2_with fail
    go_ret
    exact ⟨by rw [HF.out];rfl,rfl⟩
end
end Go.Proofs.YtgjofinbdigmcaaGreat.Key
end

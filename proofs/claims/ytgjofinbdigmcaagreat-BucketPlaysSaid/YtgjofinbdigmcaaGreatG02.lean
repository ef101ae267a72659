/- A gap in a table is closed: what lies behind it moves back, in the program's way and in the document's, which are one. Tables of keys: an entry put, the table laid anew in more places, a key taken out; what holds of each table that comes of it. A block that is known whole. -/
import Derived.Test.YtgjofinbdigmcaaGreatG01
import Derived.Laws.Rows
import Derived.Laws.CopyOwn
set_option linter.unusedVariables false
section
namespace Go.Proofs.YtgjofinbdigmcaaGreat.Key
open Go.Proofs.YtgjofinbdigmcaaGreat.Mem Go.Proofs.YtgjofinbdigmcaaGreat.Fnv
def pl (n a x:Nat):Nat:=(a+x) % n
def back (n:Nat) (e:Ent) (j:Nat):Nat:=(j+n - hm n e.key) % n
theorem pl_lt {n a x:Nat} (h:0 < n):pl n a x < n:=Nat.mod_lt _ h
theorem pl_add (n a x:Nat):pl n a (x+n)=pl n a x:=by unfold pl;rw [← Nat.add_assoc,Nat.add_mod_right]
theorem pl_ne {n a x y:Nat} (h1:x < y) (h2:y < x+n):pl n a x≠pl n a y:=by
 intro h
 have:=mod_one (n:=n) h (by omega) (by omega)
 omega
theorem pl_next (n a x:Nat):(pl n a x+1) % n=pl n a (x+1):=by
 unfold pl
 rw [← Nat.add_assoc]
 exact Nat.mod_add_mod _ _ _
theorem back_lt {n:Nat} (h:0 < n) (e:Ent) (j:Nat):back n e j < n:=Nat.mod_lt _ h
theorem hm_lt {n:Nat} (h:0 < n) (s:ByteArray):hm n s < n:=Nat.mod_lt _ h
theorem home_back {n j:Nat} {e:Ent} (hj:j < n):(hm n e.key+back n e j) % n=j:=by
 have h1:=hm_lt (show 0 < n by omega) e.key
 unfold back
 rw [Nat.add_mod_mod,show hm n e.key+(j+n - hm n e.key)=j+n by omega,Nat.add_mod_right,Nat.mod_eq_of_lt hj]
theorem back_path {n a o t:Nat} {e:Ent} (hn:0 < n) (ht:t≤back n e (pl n a o)):pl n a (o+n - t)=(hm n e.key+(back n e (pl n a o) - t)) % n:=by
 have h1:=home_back (e:=e) (pl_lt (a:=a) (x:=o) hn)
 have hb:=back_lt hn e (pl n a o)
 generalize back n e (pl n a o)=B at *
 unfold pl at h1 ⊢
 have h2:(a+(o+n - t)+t) % n=(hm n e.key+(B - t)+t) % n:=by
  rw [show a+(o+n - t)+t=a+o+n by omega,show hm n e.key+(B - t)+t=hm n e.key+B by omega,Nat.add_mod_right,h1]
 have h3:((a+(o+n - t)) % n+t) % n=((hm n e.key+(B - t)) % n+t) % n:=by rw [Nat.mod_add_mod,Nat.mod_add_mod];exact h2
 have h4:=Nat.mod_lt (a+(o+n - t)) hn
 have h5:=Nat.mod_lt (hm n e.key+(B - t)) hn
 generalize (a+(o+n - t)) % n=x at *
 generalize (hm n e.key+(B - t)) % n=y at *
 rcases Nat.le_total x y with h|h
 ·have:=mod_one h3 (by omega) (by omega);omega
 ·have:=mod_one h3.symm (by omega) (by omega);omega
theorem some_pl {n a j:Nat} (hj:j < n):∃ o,o < n∧pl n a o=j:=some_dist (h:=a) hj
theorem find_back {T:Tab} {a o:Nat} {e:Ent} (hl:look T (pl T.length a o)=some e) (h:∀ t,1≤t→t≤back T.length e (pl T.length a o)→stops T e.key (pl T.length a (o+T.length - t))=false):find T e.key=pl T.length a o:=by
 have hj:=look_lt hl
 have hn:0 < T.length:=by omega
 have h1:=home_back (e:=e) hj
 rw [← h1]
 refine find_eq (back_lt hn _ _) (by rw [h1,stops_key hl];simp) (fun x hx=>?_)
 have h2:=h (back T.length e (pl T.length a o) - x) (by omega) (by omega)
 rw [back_path (e:=e) hn (by omega)] at h2
 rw [show back T.length e (pl T.length a o) - (back T.length e (pl T.length a o) - x)=x by omega] at h2
 exact h2
theorem wf_back {T:Tab} (hw:WF T) {a o:Nat} {e:Ent} (hl:look T (pl T.length a o)=some e):∀ t,1≤t→t≤back T.length e (pl T.length a o)→stops T e.key (pl T.length a (o+T.length - t))=false:=by
 intro t h1 h2
 have hj:=look_lt hl
 have hn:0 < T.length:=by omega
 have hd:=wf_dist hw hl
 have hf:=hw _ e hl
 have hb:=home_back (e:=e) hj
 have hbl:=back_lt hn e (pl T.length a o)
 have e1:dist T e.key=back T.length e (pl T.length a o):=by
  have h3:(hm T.length e.key+dist T e.key) % T.length=(hm T.length e.key+back T.length e (pl T.length a o)) % T.length:=by
   rw [hb];exact hf
  rcases Nat.le_total (dist T e.key) (back T.length e (pl T.length a o)) with h|h
  ·have:=mod_one h3 (by omega) (by omega);omega
  ·have:=mod_one h3.symm (by omega) (by omega);omega
 rw [back_path hn h2]
 exact dist_before (by omega)
structure Gap (T:Tab) (a g c Q:Nat):Prop where
 gc:g < c
 cq:c≤Q
 qn:Q < T.length
 hg:look T (pl T.length a g)=none
 hq:look T (pl T.length a Q)=none
 path:∀ o e,o < T.length→look T (pl T.length a o)=some e→∀ t,1≤t→t≤back T.length e (pl T.length a o)→stops T e.key (pl T.length a (o+T.length - t))=false∨(pl T.length a (o+T.length - t)=pl T.length a g∧c≤o)
def moved (T:Tab) (n a g c:Nat) (e:Ent):Tab:=(T.set (pl n a c) none).set (pl n a g) (some e)
theorem Gap.one {T:Tab} {a g c Q o1 o2:Nat} {e f:Ent} (G:Gap T a g c Q) (h1:o1 < T.length) (h2:o2 < T.length) (hl1:look T (pl T.length a o1)=some e) (hl2:look T (pl T.length a o2)=some f) (hk:e.key=f.key):o1=o2:=by
 have hn:0 < T.length:=by omega
 have key:∀ (x y:Nat) (u v:Ent),x < T.length→y < T.length→look T (pl T.length a x)=some u→look T (pl T.length a y)=some v→u.key=v.key→¬ back T.length u (pl T.length a x) < back T.length v (pl T.length a y):=by
  intro x y u v hx hy hu hv huv hlt
  have hp:=back_path (a:=a) (o:=y) (t:=back T.length v (pl T.length a y) - back T.length u (pl T.length a x)) (e:=v) hn (by omega)
  rw [show back T.length v (pl T.length a y) - (back T.length v (pl T.length a y) - back T.length u (pl T.length a x))=back T.length u (pl T.length a x) by omega,← huv,home_back (e:=u) (pl_lt hn)] at hp
  rcases G.path y v hy hv (back T.length v (pl T.length a y) - back T.length u (pl T.length a x)) (by omega) (Nat.sub_le _ _) with h|⟨h,_⟩
  ·rw [hp,stops_key hu,huv] at h
   simp at h
  ·rw [hp] at h
   rw [h,G.hg] at hu
   cases hu
 have e1:=key o1 o2 e f h1 h2 hl1 hl2 hk
 have e2:=key o2 o1 f e h2 h1 hl2 hl1 hk.symm
 have e3:back T.length e (pl T.length a o1)=back T.length f (pl T.length a o2):=by omega
 have e4:=home_back (e:=e) (pl_lt (a:=a) (x:=o1) hn)
 have e5:=home_back (e:=f) (pl_lt (a:=a) (x:=o2) hn)
 rw [← hk,← e3,e4] at e5
 rcases Nat.lt_trichotomy o1 o2 with h|h|h
 ·exact absurd e5 (pl_ne h (by omega))
 ·exact h
 ·exact absurd e5.symm (pl_ne h (by omega))
theorem Gap.stay {T:Tab} {a g c Q:Nat} {e:Ent} (G:Gap T a g c Q) (he:look T (pl T.length a c)=some e) (hb:¬ c - g≤back T.length e (pl T.length a c)):Gap T a g (c+1) Q:=by
 obtain ⟨hgc,hcq,hqn,hg,hq,hp⟩:=G
 have hne:c≠Q:=by rintro rfl;rw [hq] at he;cases he
 refine ⟨by omega,by omega,hqn,hg,hq,fun o f ho hf t h1 h2=>?_⟩
 rcases hp o f ho hf t h1 h2 with h|⟨h,h3⟩
 ·exact .inl h
 ·by_cases hoc:o=c
  ·subst hoc
   rw [he] at hf
   injection hf with hf
   subst hf
   have hbl:=back_lt (n:=T.length) (by omega) e (pl T.length a o)
   refine absurd h.symm ?_
   rw [← pl_add T.length a g]
   exact pl_ne (by omega) (by omega)
  ·exact .inr ⟨h,by omega⟩
theorem moved_length (T:Tab) (n a g c:Nat) (e:Ent):(moved T n a g c e).length=T.length:=by simp [moved]
theorem look_moved {T:Tab} {a g c j:Nat} {e:Ent} (hn:0 < T.length):look (moved T T.length a g c e) j=if pl T.length a g=j then some e else if pl T.length a c=j then none else look T j:=by
 unfold moved
 rw [look_set (by rw [List.length_set];exact pl_lt hn),look_set (pl_lt hn)]
theorem Gap.move {T:Tab} {a g c Q:Nat} {e:Ent} (G:Gap T a g c Q) (he:look T (pl T.length a c)=some e) (hb:c - g≤back T.length e (pl T.length a c)):Gap (moved T T.length a g c e) a c (c+1) Q:=by
 have hj:=look_lt he
 have hn:0 < T.length:=by omega
 have hcq:=G.cq
 have hqn:=G.qn
 have hgc:=G.gc
 have hbl:=back_lt hn e (pl T.length a c)
 have hcg:pl T.length a g≠pl T.length a c:=pl_ne (by omega) (by omega)
 have hne:c≠Q:=by rintro rfl;have:=G.hq;rw [this] at he;cases he
 have hgq:pl T.length a g≠pl T.length a Q:=pl_ne (by omega) (by omega)
 have hcQ:pl T.length a c≠pl T.length a Q:=pl_ne (by omega) (by omega)
 refine ⟨by omega,by omega,by rw [moved_length];exact hqn,?_,?_,?_⟩
 ·rw [moved_length,look_moved hn,if_neg hcg,if_pos rfl]
 ·rw [moved_length,look_moved hn,if_neg hgq,if_neg hcQ];exact G.hq
 ·intro o f ho hf t h1 h2
  rw [moved_length] at ho hf h2 ⊢
  have same:∀ s j,j≠pl T.length a g→j≠pl T.length a c→stops (moved T T.length a g c e) s j=stops T s j:=by
   intro s j h3 h4
   simp only [stops]
   rw [look_moved hn,if_neg (Ne.symm h3),if_neg (Ne.symm h4)]
  rw [look_moved hn] at hf
  by_cases hog:pl T.length a g=pl T.length a o
  ·-- what was moved
   rw [if_pos hog] at hf
   injection hf with hf
   subst hf
   have e1:g=o:=by
    rcases Nat.lt_trichotomy g o with h|h|h
    ·exact absurd hog (pl_ne h (by omega))
    ·exact h
    ·exact absurd hog.symm (pl_ne h (by omega))
   subst e1
   have e2:back T.length e (pl T.length a g)=back T.length e (pl T.length a c) - (c - g):=by
    have hp:=back_path (a:=a) (o:=c) (t:=c - g) (e:=e) hn hb
    rw [show c+T.length - (c - g)=g+T.length by omega,pl_add] at hp
    have hh:=home_back (e:=e) (pl_lt (a:=a) (x:=g) hn)
    have hlt:=back_lt hn e (pl T.length a g)
    have h3:=hh.trans hp
    rcases Nat.le_total (back T.length e (pl T.length a g)) (back T.length e (pl T.length a c) - (c - g)) with h|h
    ·have:=mod_one h3 (by omega) (by omega);omega
    ·have:=mod_one h3.symm (by omega) (by omega);omega
   rw [e2] at h2
   have hnp:pl T.length a (g+T.length - t)≠pl T.length a g:=by
    rw [← pl_add (x:=g)]
    exact pl_ne (by omega) (by omega)
   refine .inl ?_
   have h3:=G.path c e (by omega) he (t+(c - g)) (by omega) (by omega)
   rw [show c+T.length - (t+(c - g))=g+T.length - t by omega] at h3
   rcases h3 with h3|⟨h3,_⟩
   ·rw [same _ _ hnp (fun h4=>by rw [h4,stops_key he] at h3;simp at h3)]
    exact h3
   ·exact absurd h3 hnp
  ·rw [if_neg hog] at hf
   by_cases hoc:pl T.length a c=pl T.length a o
   ·rw [if_pos hoc] at hf;cases hf
   ·rw [if_neg hoc] at hf
    have hoc':o≠c:=fun h=>hoc (by rw [h])
    by_cases hp:pl T.length a (o+T.length - t)=pl T.length a g
    ·refine .inl ?_
     rw [hp]
     rw [stops_key (e:=e) (by rw [look_moved hn,if_pos rfl])]
     simp only [decide_eq_false_iff_not]
     intro hk
     exact hoc' (G.one ho (by omega) hf he hk.symm)
    ·have h3:=(G.path o f ho hf t h1 h2).resolve_right (fun h=>hp h.1)
     by_cases hpc:pl T.length a (o+T.length - t)=pl T.length a c
     ·refine .inr ⟨hpc,?_⟩
      apply Classical.byContradiction
      intro h4
      have hbo:=back_lt hn f (pl T.length a o)
      have e3:o+T.length - t=c:=by
       rcases Nat.lt_trichotomy (o+T.length - t) c with h|h|h
       ·exact absurd hpc (pl_ne h (by omega))
       ·exact h
       ·exact absurd hpc.symm (pl_ne h (by omega))
      rcases G.path o f ho hf (o+T.length - Q) (by omega) (by omega) with h5|⟨_,h5⟩
      ·rw [show o+T.length - (o+T.length - Q)=Q by omega,stops_free G.hq] at h5
       cases h5
      ·omega
     ·exact .inl (by rw [same _ _ hp hpc];exact h3)
theorem Gap.shut {T:Tab} {a g c Q:Nat} (G:Gap T a g c Q) (hc:look T (pl T.length a c)=none):WF T:=by
 intro j e he
 have hj:=look_lt he
 have hn:0 < T.length:=by omega
 have hcq:=G.cq
 have hqn:=G.qn
 have hgc:=G.gc
 obtain ⟨o,ho,rfl⟩:=some_pl (a:=a) hj
 refine find_back he (fun t h1 h2=>?_)
 rcases G.path o e ho he t h1 h2 with h|⟨h,h3⟩
 ·exact h
 ·exfalso
  have hbo:=back_lt hn e (pl T.length a o)
  have hoc:o≠c:=by rintro rfl;rw [hc] at he;cases he
  have e3:t=o - g:=by
   rw [← pl_add (x:=g)] at h
   rcases Nat.lt_trichotomy (o+T.length - t) (g+T.length) with h4|h4|h4
   ·exact absurd h (pl_ne h4 (by omega))
   ·omega
   ·exact absurd h.symm (pl_ne h4 (by omega))
  rcases G.path o e ho he (o - c) (by omega) (by omega) with h5|⟨h5,_⟩
  ·rw [show o+T.length - (o - c)=c+T.length by omega,pl_add,stops_free hc] at h5
   cases h5
  ·rw [show o+T.length - (o - c)=c+T.length by omega,pl_add] at h5
   exact pl_ne (n:=T.length) (a:=a) hgc (by omega) h5.symm
theorem Gap.start {T:Tab} (hw:WF T) (hf:free T) {a:Nat} {e:Ent} (he:look T a=some e):∃ Q,Gap (T.set a none) a 0 1 Q:=by
 have hj:=look_lt he
 have hn:0 < T.length:=by omega
 obtain ⟨q,hq,hlq⟩:=hf
 obtain ⟨Q,hQ,rfl⟩:=some_pl (a:=a) hq
 have h0:pl T.length a 0=a:=by simp [pl,Nat.mod_eq_of_lt hj]
 have hQ0:Q≠0:=by rintro rfl;rw [h0,he] at hlq;cases hlq
 have hne:a≠pl T.length a Q:=by
  have:=pl_ne (n:=T.length) (a:=a) (x:=0) (y:=Q) (by omega) (by omega)
  rwa [h0] at this
 refine ⟨Q,by omega,by omega,by simpa using hQ,?_,?_,?_⟩
 ·rw [List.length_set,h0,look_set_same hj]
 ·rw [List.length_set,look_set_ne hne];exact hlq
 ·intro o f ho hf t h1 h2
  rw [List.length_set] at ho hf h2 ⊢
  have hao:a≠pl T.length a o:=by
   intro h
   rw [← h,look_set_same hj] at hf
   cases hf
  rw [look_set_ne hao] at hf
  by_cases hp:pl T.length a (o+T.length - t)=pl T.length a 0
  ·refine .inr ⟨hp,?_⟩
   rcases Nat.eq_zero_or_pos o with h|h
   ·rw [h,h0] at hao;exact absurd rfl hao
   ·exact h
  ·refine .inl ?_
   rw [h0] at hp
   rw [stops_set_ne (Ne.symm hp)]
   exact wf_back hw hf t h1 h2
end Go.Proofs.YtgjofinbdigmcaaGreat.Key
end
section
namespace Go.Proofs.YtgjofinbdigmcaaGreat.Key
open Go.Proofs.YtgjofinbdigmcaaGreat.Mem Go.Proofs.YtgjofinbdigmcaaGreat.Fnv
theorem Gap.mem_moved {T:Tab} {a g c Q:Nat} {e f:Ent} (G:Gap T a g c Q) (he:look T (pl T.length a c)=some e):some f ∈ moved T T.length a g c e ↔ some f ∈ T:=by
 have hn:0 < T.length:=by have:=G.qn;omega
 have hcq:=G.cq
 have hqn:=G.qn
 have hgc:=G.gc
 have hcg:pl T.length a g≠pl T.length a c:=pl_ne (by omega) (by omega)
 rw [look_mem,look_mem]
 constructor
 ·rintro ⟨j,hj⟩
  rw [look_moved hn] at hj
  split at hj
  ·exact ⟨_,he.trans hj⟩
  ·split at hj
   ·cases hj
   ·exact ⟨j,hj⟩
 ·rintro ⟨j,hj⟩
  by_cases h1:pl T.length a c=j
  ·refine ⟨pl T.length a g,?_⟩
   rw [look_moved hn,if_pos rfl,← he,h1,hj]
  ·refine ⟨j,?_⟩
   rw [look_moved hn,if_neg ?_,if_neg h1,hj]
   rintro rfl
   rw [G.hg] at hj
   cases hj
theorem Gap.cnt_moved {T:Tab} {a g c Q:Nat} {e:Ent} (G:Gap T a g c Q) (he:look T (pl T.length a c)=some e):cnt (moved T T.length a g c e)=cnt T:=by
 have hn:0 < T.length:=by have:=G.qn;omega
 have hcq:=G.cq
 have hqn:=G.qn
 have hgc:=G.gc
 have hcg:pl T.length a g≠pl T.length a c:=pl_ne (by omega) (by omega)
 have h1:=cnt_set (T:=T) (i:=pl T.length a c) (pl_lt hn) none
 have h2:=cnt_set (T:=T.set (pl T.length a c) none) (i:=pl T.length a g) (by rw [List.length_set];exact pl_lt hn) (some e)
 rw [look_set_ne hcg.symm,G.hg] at h2
 rw [he] at h1
 simp at h1 h2
 unfold moved
 omega
def close (n a:Nat):Nat→Tab→Nat→Nat→Tab
 | 0,T,g,c=>T
 | f+1,T,g,c=>match look T (pl n a c) with
  | none=>T
  | some e=>if c - g≤back n e (pl n a c) then close n a f (moved T n a g c e) c (c+1) else close n a f T g (c+1)
theorem close_none {n a f g c:Nat} {T:Tab} (h:look T (pl n a c)=none):close n a f T g c=T:=by
 cases f with
 | zero=>rfl
 | succ f=>simp [close,h]
theorem close_move {n a f g c:Nat} {T:Tab} {e:Ent} (h:look T (pl n a c)=some e) (hb:c - g≤back n e (pl n a c)):close n a (f+1) T g c=close n a f (moved T n a g c e) c (c+1):=by
 simp [close,h,hb]
theorem close_stay {n a f g c:Nat} {T:Tab} {e:Ent} (h:look T (pl n a c)=some e) (hb:¬ c - g≤back n e (pl n a c)):close n a (f+1) T g c=close n a f T g (c+1):=by
 simp [close,h,hb]
theorem close_all {n a:Nat}:∀ {f:Nat} {T:Tab} {g c Q:Nat},Gap T a g c Q→T.length=n→Q - c < f→WF (close n a f T g c)∧(close n a f T g c).length=n∧(∀ e,some e ∈ close n a f T g c ↔ some e ∈ T)∧cnt (close n a f T g c)=cnt T
 | 0,T,g,c,Q,_,_,h=>by omega
 | f+1,T,g,c,Q,G,hl,h=>by
  subst hl
  cases he:look T (pl T.length a c) with
  | none =>
   rw [close_none he]
   exact ⟨G.shut he,rfl,fun _=>Iff.rfl,rfl⟩
  | some e =>
   by_cases hb:c - g≤back T.length e (pl T.length a c)
   ·rw [close_move he hb]
    have G2:=G.move he hb
    have h2:=G2.cq
    obtain ⟨k1,k2,k3,k4⟩:=close_all (n:=T.length) (f:=f) G2 (moved_length ..) (by omega)
    exact ⟨k1,k2,fun x=>(k3 x).trans (G.mem_moved he),k4.trans (G.cnt_moved he)⟩
   ·rw [close_stay he hb]
    have G2:=G.stay he hb
    have h2:=G2.cq
    exact close_all (n:=T.length) (f:=f) G2 rfl (by omega)
def gone (T:Tab) (s:ByteArray):Tab:=close T.length (find T s) T.length (T.set (find T s) none) 0 1
def del (T:Tab) (s:ByteArray):Tab:=if (ask T s).isSome then gone T s else T
theorem del_none {T:Tab} {s:ByteArray} (h:ask T s=none):del T s=T:=by simp [del,h]
theorem del_some {T:Tab} {s:ByteArray} {e:Ent} (h:ask T s=some e):del T s=gone T s:=by simp [del,h]
theorem gone_all {T:Tab} (hw:WF T) (hf:free T) {s:ByteArray} {e:Ent} (he:ask T s=some e):WF (gone T s)∧(gone T s).length=T.length∧(∀ f,some f ∈ gone T s ↔ (some f ∈ T∧f.key≠s))∧cnt (gone T s)+1=cnt T:=by
 have hl:look T (find T s)=some e:=he
 have hj:=look_lt hl
 obtain ⟨Q,G⟩:=Gap.start hw hf hl
 have hq:=G.qn
 rw [List.length_set] at hq
 obtain ⟨k1,k2,k3,k4⟩:=close_all (n:=T.length) (f:=T.length) G (by simp) (by omega)
 refine ⟨k1,k2,fun f=>(k3 f).trans ?_,?_⟩
 ·rw [look_mem,look_mem]
  constructor
  ·rintro ⟨j,h1⟩
   rw [look_set hj] at h1
   split at h1
   ·cases h1
   ·rename_i hne
    refine ⟨⟨j,h1⟩,?_⟩
    rintro rfl
    exact hne (hw _ _ h1)
  ·rintro ⟨⟨j,h1⟩,h2⟩
   refine ⟨j,?_⟩
   rw [look_set_ne]
   ·exact h1
   ·rintro rfl
    exact h2 (find_key hf h1)
 ·have h1:=cnt_set hj none
  rw [hl] at h1
  simp at h1
  unfold gone
  omega
def lays (A:Tab) (o:Option Ent):Tab:=match o with|none=>A|some e=>lay A e
def part (T:Tab) (m k:Nat):Tab:=(T.take k).foldl lays (List.replicate m none)
def again (T:Tab) (m:Nat):Tab:=part T m T.length
theorem part_zero (T:Tab) (m:Nat):part T m 0=List.replicate m none:=by simp [part]
theorem take_look {T:Tab} {k:Nat} (h:k < T.length):T.take (k+1)=T.take k++[look T k]:=by
 rw [List.take_succ_eq_append_getElem h]
 simp [look,List.getD,h]
theorem part_succ {T:Tab} {m k:Nat} (h:k < T.length):part T m (k+1)=lays (part T m k) (look T k):=by
 unfold part
 rw [take_look h,List.foldl_append]
 rfl
theorem part_none {T:Tab} {m k:Nat} (h:k < T.length) (he:look T k=none):part T m (k+1)=part T m k:=by rw [part_succ h,he];rfl
theorem part_some {T:Tab} {m k:Nat} {e:Ent} (h:k < T.length) (he:look T k=some e):part T m (k+1)=lay (part T m k) e:=by rw [part_succ h,he];rfl
theorem cnt_take {T:Tab} {k:Nat} (h:k < T.length):cnt (T.take (k+1))=cnt (T.take k)+(if (look T k).isSome then 1 else 0):=by
 unfold cnt
 rw [take_look h,List.countP_append]
 simp
theorem cnt_take_le (T:Tab) (k:Nat):cnt (T.take k)≤cnt T:=by
 unfold cnt
 exact (List.take_sublist k T).countP_le
theorem part_all {T:Tab} (hw:WF T) {m:Nat} (hm:cnt T < m):∀ k,k≤T.length→WF (part T m k)∧(part T m k).length=m∧(∀ f,some f ∈ part T m k ↔ ∃ j,j < k∧look T j=some f)∧cnt (part T m k)=cnt (T.take k)
 | 0,_=>by
  rw [part_zero]
  refine ⟨wf_new m,by simp,fun f=>⟨fun h=>?_,fun ⟨j,h,_⟩=>by omega⟩,by rw [cnt_new];simp [cnt]⟩
  have:=(List.mem_replicate.1 h).2
  cases this
 | k+1,hk=>by
  obtain ⟨k1,k2,k3,k4⟩:=part_all hw hm k (by omega)
  have hc:=cnt_take (T:=T) (k:=k) (by omega)
  cases he:look T k with
  | none =>
   rw [part_none (by omega) he]
   refine ⟨k1,k2,fun f=>(k3 f).trans ⟨fun ⟨j,h1,h2⟩=>⟨j,by omega,h2⟩,fun ⟨j,h1,h2⟩=>⟨j,?_,h2⟩⟩,?_⟩
   ·have:j≠k:=by rintro rfl;rw [he] at h2;cases h2
    omega
   ·rw [he] at hc;simp at hc;omega
  | some e =>
   rw [part_some (by omega) he]
   have hle:=cnt_take_le T k
   have hf:free (part T m k):=free_of_cnt (by omega)
   have hno:∀ f,some f ∈ part T m k→f.key≠e.key:=by
    intro f hf hk
    obtain ⟨j,h1,h2⟩:=(k3 f).1 hf
    have:=look_one hw h2 he hk
    omega
   refine ⟨wf_lay k1 hf e,by rw [lay_length,k2],fun f=>(mem_lay k1 hf).trans ?_,?_⟩
   ·constructor
    ·rintro (rfl|⟨h1,_⟩)
     ·exact ⟨k,by omega,he⟩
     ·obtain ⟨j,h2,h3⟩:=(k3 f).1 h1
      exact ⟨j,by omega,h3⟩
    ·rintro ⟨j,h1,h2⟩
     by_cases hjk:j=k
     ·subst hjk
      rw [he] at h2
      injection h2 with h2
      exact .inl h2.symm
     ·have:=(k3 f).2 ⟨j,by omega,h2⟩
      exact .inr ⟨this,hno f this⟩
   ·rw [cnt_lay hf]
    have hn:ask (part T m k) e.key=none:=by
     cases ha:ask (part T m k) e.key with
     | none=>rfl
     | some f =>
      obtain ⟨h1,h2⟩:=(ask_iff k1 hf).1 ha
      exact absurd h2 (hno f h1)
    rw [hn,k4]
    rw [he] at hc
    simp at hc ⊢
    omega
theorem again_all {T:Tab} (hw:WF T) {m:Nat} (hm:cnt T < m):WF (again T m)∧(again T m).length=m∧(∀ f,some f ∈ again T m ↔ some f ∈ T)∧cnt (again T m)=cnt T:=by
 obtain ⟨k1,k2,k3,k4⟩:=part_all hw hm T.length (Nat.le_refl _)
 refine ⟨k1,k2,fun f=>(k3 f).trans ?_,?_⟩
 ·rw [look_mem]
  exact ⟨fun ⟨j,_,h⟩=>⟨j,h⟩,fun ⟨j,h⟩=>⟨j,look_lt h,h⟩⟩
 ·show cnt (part T m T.length)=cnt T
  rw [k4,List.take_of_length_le (Nat.le_refl _)]
def tight (T:Tab):Prop:=3 * T.length < 4 * (cnt T+1)
instance (T:Tab):Decidable (tight T):=by unfold tight;infer_instance
def put (T:Tab) (e:Ent):Tab:=if ask T e.key=none∧tight T then lay (again T (2 * T.length)) e else lay T e
theorem put_tight {T:Tab} {e:Ent} (h:ask T e.key=none) (ht:tight T):put T e=lay (again T (2 * T.length)) e:=by simp [put,h,ht]
theorem put_wide {T:Tab} {e:Ent} (ht:¬ tight T):put T e=lay T e:=by simp [put,ht]
theorem put_there {T:Tab} {e f:Ent} (h:ask T e.key=some f):put T e=lay T e:=by simp [put,h]
structure Good (T:Tab) (i:Nat):Prop where
 wf:WF T
 pow:∃ k,3≤k∧T.length=2 ^ k
 load:4 * cnt T≤3 * T.length
 few:cnt T≤i
 size:T.length≤8+8 * i
theorem Good.eight {T:Tab} {i:Nat} (h:Good T i):8≤T.length:=by
 obtain ⟨k,h1,h2⟩:=h.pow
 rw [h2]
 exact Nat.pow_le_pow_right (n:=2) (by omega) h1
theorem Good.free {T:Tab} {i:Nat} (h:Good T i):Key.free T:=free_of_cnt (by have:=h.eight;have:=h.load;omega)
theorem Good.pow30 {T:Tab} {i:Nat} (h:Good T i) (hi:i≤1000):Pow (T.length:Int):=by
 obtain ⟨k,h1,h2⟩:=h.pow
 refine ⟨k,?_,by rw [h2]⟩
 have h3:2 ^ k≤2 ^ 30:=by rw [← h2];have:=h.size;omega
 exact (Nat.pow_le_pow_iff_right (by omega)).1 h3
theorem good_new:Good (List.replicate 8 none) 0 where
 wf:=wf_new 8
 pow:=⟨3,by omega,by simp⟩
 load:=by rw [cnt_new];omega
 few:=by rw [cnt_new];omega
 size:=by simp
theorem Good.more {T:Tab} {i:Nat} (h:Good T i):Good T (i+1):=⟨h.wf,h.pow,h.load,by have:=h.few;omega,by have:=h.size;omega⟩
theorem Good.wide {T:Tab} {i:Nat} (h:Good T i):Good (again T (2 * T.length)) i∨¬ tight T:=by
 by_cases ht:tight T
 ·have h8:=h.eight
  obtain ⟨k1,k2,k3,k4⟩:=again_all h.wf (m:=2 * T.length) (by have:=h.load;omega)
  obtain ⟨k,h1,h2⟩:=h.pow
  refine .inl ⟨k1,⟨k+1,by omega,by rw [k2,h2,Nat.pow_succ];omega⟩,by have:=h.load;omega,by rw [k4];exact h.few,?_⟩
  have:=h.few
  unfold tight at ht
  omega
 ·exact .inr ht
theorem Good.lay {T:Tab} {i:Nat} (h:Good T i) (e:Ent) (hn:ask T e.key=none→¬ tight T):Good (lay T e) (i+1):=by
 have hc:=cnt_lay h.free e
 refine ⟨wf_lay h.wf h.free e,by rw [lay_length];exact h.pow,?_,?_,by rw [lay_length];have:=h.size;omega⟩
 ·rw [lay_length]
  cases ha:ask T e.key with
  | none =>
   have:=hn ha
   unfold tight at this
   rw [ha] at hc
   simp at hc
   omega
  | some f =>
   rw [ha] at hc
   simp at hc
   have:=h.load
   omega
 ·have:=h.few
  split at hc <;> omega
theorem again_ask {T:Tab} {i:Nat} (h:Good T i) (h2:Good (again T (2 * T.length)) i) (s:ByteArray):ask (again T (2 * T.length)) s=ask T s:=by
 obtain ⟨k1,k2,k3,k4⟩:=again_all h.wf (m:=2 * T.length) (by have:=h.load;have:=h.eight;omega)
 apply Option.ext
 intro f
 rw [ask_iff h2.wf h2.free,ask_iff h.wf h.free,k3]
theorem again_wide {T:Tab} {i:Nat} (h:Good T i):¬ tight (again T (2 * T.length)):=by
 obtain ⟨k1,k2,k3,k4⟩:=again_all h.wf (m:=2 * T.length) (by have:=h.load;have:=h.eight;omega)
 unfold tight
 have:=h.load
 have:=h.eight
 omega
theorem Good.put {T:Tab} {i:Nat} (h:Good T i) (e:Ent):Good (put T e) (i+1):=by
 by_cases hp:ask T e.key=none∧tight T
 ·rw [put_tight hp.1 hp.2]
  exact (h.wide.resolve_right (fun k=>k hp.2)).lay e (fun _=>again_wide h)
 ·rw [show Key.put T e=Key.lay T e by simp only [Key.put,if_neg hp]]
  exact h.lay e (fun h1 h2=>hp ⟨h1,h2⟩)
theorem ask_put {T:Tab} {i:Nat} (h:Good T i) (e:Ent) (s:ByteArray):ask (put T e) s=if s=e.key then some e else ask T s:=by
 have hg:=h.put e
 by_cases hp:ask T e.key=none∧tight T
 ·have hw:=h.wide.resolve_right (fun k=>k hp.2)
  rw [put_tight hp.1 hp.2] at hg ⊢
  rw [ask_lay hw.wf hw.free hg.free,again_ask h hw]
 ·rw [show Key.put T e=Key.lay T e by simp only [Key.put,if_neg hp]] at hg ⊢
  exact ask_lay h.wf h.free hg.free
theorem cnt_put {T:Tab} {i:Nat} (h:Good T i) (e:Ent):cnt (put T e)=cnt T+(if (ask T e.key).isSome then 0 else 1):=by
 by_cases hp:ask T e.key=none∧tight T
 ·have hw:=h.wide.resolve_right (fun k=>k hp.2)
  obtain ⟨k1,k2,k3,k4⟩:=again_all h.wf (m:=2 * T.length) (by have:=h.load;have:=h.eight;omega)
  rw [put_tight hp.1 hp.2,cnt_lay hw.free,again_ask h hw,k4]
 ·rw [show Key.put T e=Key.lay T e by simp only [Key.put,if_neg hp]]
  exact cnt_lay h.free e
theorem Good.del {T:Tab} {i:Nat} (h:Good T i) (s:ByteArray):Good (del T s) (i+1):=by
 cases ha:ask T s with
 | none=>rw [del_none ha];exact h.more
 | some e =>
  rw [del_some ha]
  obtain ⟨k1,k2,k3,k4⟩:=gone_all h.wf h.free ha
  exact ⟨k1,by rw [k2];exact h.pow,by rw [k2];have:=h.load;omega,by have:=h.few;omega,by rw [k2];have:=h.size;omega⟩
theorem ask_del {T:Tab} {i:Nat} (h:Good T i) (s x:ByteArray):ask (del T s) x=if x=s then none else ask T x:=by
 have hg:=h.del s
 cases ha:ask T s with
 | none =>
  rw [del_none ha]
  split
  ·rename_i hx;rw [hx,ha]
  ·rfl
 | some e =>
  rw [del_some ha] at hg ⊢
  obtain ⟨k1,k2,k3,k4⟩:=gone_all h.wf h.free ha
  apply Option.ext
  intro f
  rw [ask_iff hg.wf hg.free,k3]
  by_cases hx:x=s
  ·rw [if_pos hx]
   subst hx
   constructor
   ·rintro ⟨⟨_,h1⟩,h2⟩;exact absurd h2 h1
   ·intro h1;cases h1
  ·rw [if_neg hx,ask_iff h.wf h.free]
   constructor
   ·rintro ⟨⟨h1,_⟩,h2⟩;exact ⟨h1,h2⟩
   ·rintro ⟨h1,h2⟩;exact ⟨⟨h1,fun h3=>hx (h2.symm.trans h3)⟩,h2⟩
theorem cnt_del {T:Tab} {i:Nat} (h:Good T i) (s:ByteArray):cnt (del T s)+(if (ask T s).isSome then 1 else 0)=cnt T:=by
 cases ha:ask T s with
 | none=>rw [del_none ha];simp
 | some e =>
  rw [del_some ha]
  obtain ⟨k1,k2,k3,k4⟩:=gone_all h.wf h.free ha
  simpa using k4
end Go.Proofs.YtgjofinbdigmcaaGreat.Key
end
section
namespace Go.Proofs.YtgjofinbdigmcaaGreat.Mem
open Go.RowKit
def Blk (w:World) (g:Nat) (t:TypeId) (cs:Array Value):Prop:=w.heap[g]?=some (.cells cs t (0,0))
section
variable {w w':World} {g:Nat} {t:TypeId} {cs:Array Value}
theorem Blk.lt (h:Blk w g t cs):g < w.heap.size:=(Array.getElem?_eq_some_iff.1 (show w.heap[g]?=some _ from h)).1
theorem Blk.cell (h:Blk w g t cs) (i:Nat):w.cell? ⟨g,i,none⟩=cs[i]?:=cell_of_row _ _ i _ _ _ h
theorem Blk.frozen (h:Blk w g t cs) (i:Nat):w.frozen? ⟨g,i,none⟩=false:=by
 have e:w.heap[g]?=some (.cells cs t (0,0)):=h
 simp [World.frozen?,e]
theorem Blk.new (w:World) (t:TypeId) (cs:Array Value):Blk (w.alloc (.cells cs t)) w.heap.size t cs:=by
 show (w.alloc _).heap[_]?=_
 exact heap_alloc_new w _
theorem Blk.set_ (h:Blk w g t cs) (i:Nat) (u:Value):Blk (w.setCell ⟨g,i,none⟩ u) g t (cs.setIfInBounds i u):=by
 have e:w.heap[g]?=some (.cells cs t (0,0)):=h
 show (w.setCell _ _).heap[g]?=_
 simp [World.setCell,Array.getElem?_modify,e]
theorem Blk.but {T:Nat→Prop} (h:Blk w g t cs) (hb:But T w w') (hg:¬ T g):Blk w' g t cs:=by
 show w'.heap[g]?=_
 rw [hb.block g h.lt hg];exact h
theorem Blk.ne_ {g':Nat} {t':TypeId} {cs':Array Value} (h:Blk w g t cs) (h':Blk w g' t' cs') (hne:t≠t'):g≠g':=by
 intro e
 have e1:w.heap[g]?=some (.cells cs t (0,0)):=h
 have e2:w.heap[g]?=some (.cells cs' t' (0,0)):=by rw [e];exact h'
 rw [e1] at e2
 simp only [Option.some.injEq,Obj.cells.injEq] at e2
 exact hne e2.2.1
theorem own_blk_ne {base:Nat} {e:TypeId} {size n:Nat} {v:Value} {xs:List Value} (h:w.ownsRow base e size v n xs) (hg:Blk w g t cs) (hne:e≠t):v.ownBlock≠some g:=by
 intro hv
 rcases h.2 with ⟨h1,_⟩|⟨b,cap,cur,h1,_,h3,_⟩
 ·rw [h1] at hv;cases hv
 ·rw [h1] at hv
  have hb:b=g:=by simpa [Value.ownBlock] using hv
  exact (show Blk w b e cur from h3).ne_ hg hne hb
theorem Blk.two (w:World) (A B:Array Value) (t u:TypeId):Blk ((w.alloc (.cells A t)).alloc (.cells B u)) w.heap.size t A∧Blk ((w.alloc (.cells A t)).alloc (.cells B u)) (w.heap.size+1) u B:=by
 refine ⟨?_,?_⟩
 ·exact heap_alloc2_old w _ _
 ·exact heap_alloc2_new w _ _
theorem Blk.row (h:Blk w g t cs) (cs':Array Value):Blk (w.setRow g cs') g t cs':=setRow_heap w g cs cs' t (0,0) h
end
end Go.Proofs.YtgjofinbdigmcaaGreat.Mem
end

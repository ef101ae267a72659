/- In one text: A bucket in plain values: the bytes of all keys, what a record makes of it; and lists of entries of tables. A bucket in memory: its block, its table of keys, its heap of items, its table of tokens; what one call after the other does to it. -/
import Derived.Test.YtgjofinbdigmcaaKeyDel
import Derived.Test.YtgjofinbdigmcaaKeyGet
import Derived.Test.YtgjofinbdigmcaaKeyPut
import Derived.Test.YtgjofinbdigmcaaExpC
import Derived.Test.YtgjofinbdigmcaaRgtA
import Derived.Test.YtgjofinbdigmcaaRecLate
import Derived.Test.YtgjofinbdigmcaaMany
import Derived.Deep.CutRange
namespace Go.Proofs.Ytgjofinbdigmcaa.Buk
open Go.Proofs.Ytgjofinbdigmcaa.Mem
set_option linter.unusedVariables false
set_option linter.unusedSimpArgs false
abbrev Ent := Key.Ent
abbrev Tab := Key.Tab
abbrev It := Exp.It
abbrev Rcd := Rec.Rcd
def of (e : Ent) : Int := (e.key.size : Int) + e.size
def all (T : Tab) : List Ent := T.filterMap id
def tot : List Ent → Int
  | [] => 0
  | e :: l => of e + tot l
theorem tot_perm {l l' : List Ent} (h : l.Perm l') : tot l = tot l' := by
  induction h with
  | nil => rfl
  | cons x _ ih => simp only [tot, ih]
  | swap x y l => simp only [tot]; omega
  | trans _ _ h1 h2 => exact h1.trans h2
theorem mem_all {T : Tab} {e : Ent} : e ∈ all T ↔ some e ∈ T := by simp [all]
theorem all_apart {T : Tab} (hw : Key.WF T) : (all T).Pairwise fun x y => x.key ≠ y.key := by
  unfold all
  rw [List.pairwise_filterMap, List.pairwise_iff_getElem]
  intro i j hi hj hij b hb b' hb' hk
  have e : ∀ k (h : k < T.length), Key.look T k = T[k] := fun k h => by simp [Key.look, List.getD, h]
  have := Key.look_one hw (i := i) (j := j) ((e i hi).trans hb) ((e j hj).trans hb') hk
  omega
theorem nodup_of {l : List Ent} (h : l.Pairwise fun x y => x.key ≠ y.key) : l.Nodup := h.imp fun hk e => hk (by rw [e])
theorem perm_of {l l' : List Ent} (h : l.Pairwise fun x y => x.key ≠ y.key) (h' : l'.Pairwise fun x y => x.key ≠ y.key) (hm : ∀ e, e ∈ l ↔ e ∈ l') : l.Perm l' := (List.perm_ext_iff_of_nodup (nodup_of h) (nodup_of h')).2 hm
theorem mem_ask {T : Tab} {i : Nat} (h : Key.Good T i) {e : Ent} : e ∈ all T ↔ Key.ask T e.key = some e := by
  rw [mem_all, Key.ask_iff h.wf h.free]
  exact ⟨fun a => ⟨a, rfl⟩, fun a => a.1⟩
def but (s : ByteArray) (l : List Ent) : List Ent := l.filter fun f => decide (f.key ≠ s)
theorem mem_but {s : ByteArray} {l : List Ent} {e : Ent} : e ∈ but s l ↔ e ∈ l ∧ e.key ≠ s := by simp [but]
theorem but_apart {s : ByteArray} {l : List Ent} (h : l.Pairwise fun x y => x.key ≠ y.key) : (but s l).Pairwise fun x y => x.key ≠ y.key := h.sublist (List.filter_sublist ..)
theorem all_put {T : Tab} {i : Nat} (h : Key.Good T i) (e : Ent) : (all (Key.put T e)).Perm (e :: but e.key (all T)) := by
  refine perm_of (all_apart (h.put e).wf) (List.pairwise_cons.2 ⟨fun f hf hk => (mem_but.1 hf).2 hk.symm, but_apart (all_apart h.wf)⟩) (fun f => ?_)
  rw [mem_ask (h.put e), Key.ask_put h, List.mem_cons, mem_but, mem_ask h]
  by_cases hk : f.key = e.key
  · rw [if_pos hk]
    exact ⟨fun a => .inl (Option.some.inj a).symm, fun a => by
      rcases a with a | a
      · rw [a]
      · exact absurd hk a.2⟩
  · rw [if_neg hk]
    exact ⟨fun a => .inr ⟨a, hk⟩, fun a => by
      rcases a with a | a
      · exact absurd (by rw [a]) hk
      · exact a.1⟩
theorem all_del {T : Tab} {i : Nat} (h : Key.Good T i) (s : ByteArray) : (all (Key.del T s)).Perm (but s (all T)) := by
  refine perm_of (all_apart (h.del s).wf) (but_apart (all_apart h.wf)) (fun f => ?_)
  rw [mem_ask (h.del s), Key.ask_del h, mem_but, mem_ask h]
  by_cases hk : f.key = s
  · rw [if_pos hk]
    exact ⟨fun a => (by cases a), fun a => absurd hk a.2⟩
  · rw [if_neg hk]
    exact ⟨fun a => ⟨a, hk⟩, fun a => a.1⟩
theorem all_ask {T : Tab} {i : Nat} (h : Key.Good T i) {s : ByteArray} {e : Ent} (ha : Key.ask T s = some e) : (all T).Perm (e :: but s (all T)) := by
  have hk := ((Key.ask_iff h.wf h.free).1 ha).2
  refine perm_of (all_apart h.wf) (List.pairwise_cons.2 ⟨fun f hf h1 => (mem_but.1 hf).2 (h1.symm.trans hk), but_apart (all_apart h.wf)⟩) (fun f => ?_)
  rw [List.mem_cons, mem_but]
  by_cases hs : f.key = s
  · rw [mem_ask h, hs, ha]
    exact ⟨fun a => .inl (Option.some.inj a).symm, fun a => by
      rcases a with a | a
      · rw [a]
      · exact absurd rfl a.2⟩
  · exact ⟨fun a => .inr ⟨a, hs⟩, fun a => by
      rcases a with a | a
      · exact absurd (a ▸ hk) hs
      · exact a.1⟩
theorem all_none {T : Tab} {i : Nat} (h : Key.Good T i) {s : ByteArray} (ha : Key.ask T s = none) : but s (all T) = all T := by
  unfold but
  rw [List.filter_eq_self]
  intro f hf
  refine decide_eq_true (fun hk => ?_)
  rw [mem_ask h, hk, ha] at hf
  cases hf
theorem of_zero : of Key.zero = 0 := rfl
theorem tot_but {T : Tab} {i : Nat} (h : Key.Good T i) (s : ByteArray) : tot (but s (all T)) = tot (all T) - of (Key.ent (Key.ask T s)) := by
  cases ha : Key.ask T s with
  | none => rw [all_none h ha]; show _ = _ - of Key.zero; rw [of_zero]; omega
  | some e => rw [tot_perm (all_ask h ha)]; show _ = of e + tot _ - of e; omega
theorem tot_put {T : Tab} {i : Nat} (h : Key.Good T i) (e : Ent) : tot (all (Key.put T e)) = tot (all T) + (of e - of (Key.ent (Key.ask T e.key))) := by
  rw [tot_perm (all_put h e)]
  show of e + tot _ = _
  rw [tot_but h]
  omega
theorem tot_del {T : Tab} {i : Nat} (h : Key.Good T i) (s : ByteArray) : tot (all (Key.del T s)) = tot (all T) - of (Key.ent (Key.ask T s)) := by
  rw [tot_perm (all_del h s), tot_but h]
theorem all_length (T : Tab) : (all T).length = Key.cnt T := by
  unfold all Key.cnt
  rw [List.length_filterMap_eq_countP]
  rfl
theorem good_del {T : Tab} {i : Nat} (h : Key.Good T i) (s : ByteArray) : Key.Good (Key.del T s) i := by
  have h1 := h.del s
  refine ⟨h1.wf, h1.pow, h1.load, ?_, ?_⟩
  · have := Key.cnt_del h s
    have := h.few
    omega
  · have h2 : (Key.del T s).length = T.length := by
      cases ha : Key.ask T s with
      | none => rw [Key.del_none ha]
      | some e =>
        rw [Key.del_some ha]
        exact (Key.gone_all h.wf h.free ha).2.1
    rw [h2]
    exact h.size
/- What an entry that there is holds. -/
structure OkE (e : Ent) : Prop where
  key : 1 ≤ e.key.size ∧ e.key.size ≤ 64
  size : 0 ≤ e.size ∧ e.size ≤ 1000
  seg : -9223372036854775808 ≤ e.seg ∧ e.seg ≤ 9223372036854775807
  at_ : -9223372036854775808 ≤ e.at_ ∧ e.at_ ≤ 9223372036854775807
  len : -9223372036854775808 ≤ e.len ∧ e.len ≤ 9223372036854775807
  ver : e.ver < 18446744073709551616
  exp : e.exp < 18446744073709551616
def OkT (T : Tab) : Prop := ∀ e, some e ∈ T → OkE e
theorem of_ok {e : Ent} (h : OkE e) : 0 ≤ of e ∧ of e ≤ 1064 := by
  have := h.key
  have := h.size
  unfold of
  omega
theorem tot_ok : ∀ {l : List Ent}, (∀ e ∈ l, OkE e) → 0 ≤ tot l ∧ tot l ≤ 1064 * (l.length : Int)
  | [], _ => by simp [tot]
  | e :: l, h => by
    have h1 := of_ok (h e (List.mem_cons_self ..))
    have h2 := tot_ok (l := l) (fun f hf => h f (List.mem_cons_of_mem _ hf))
    simp only [tot, List.length_cons]
    omega
theorem OkT.tot {T : Tab} {i : Nat} (h : OkT T) (hg : Key.Good T i) : 0 ≤ Buk.tot (all T) ∧ Buk.tot (all T) ≤ 1064 * (i : Int) := by
  have h1 := tot_ok (l := all T) (fun e he => h e (mem_all.1 he))
  have h2 := all_length T
  have h3 := hg.few
  omega
theorem OkT.ask {T : Tab} {i : Nat} (h : OkT T) (hg : Key.Good T i) {s : ByteArray} {e : Ent} (ha : Key.ask T s = some e) : OkE e := h e ((Key.ask_iff hg.wf hg.free).1 ha).1
theorem OkT.of_ask {T : Tab} {i : Nat} (h : OkT T) (hg : Key.Good T i) (s : ByteArray) : 0 ≤ of (Key.ent (Key.ask T s)) ∧ of (Key.ent (Key.ask T s)) ≤ 1064 := by
  cases ha : Key.ask T s with
  | none => show 0 ≤ of Key.zero ∧ _; rw [of_zero]; show _ ∧ of Key.zero ≤ _; rw [of_zero]; omega
  | some e => exact of_ok (h.ask hg ha)
theorem OkT.put {T : Tab} {i : Nat} (h : OkT T) (hg : Key.Good T i) {e : Ent} (he : OkE e) : OkT (Key.put T e) := fun f hf => by
  rcases List.mem_cons.1 ((all_put hg e).subset (mem_all.2 hf)) with h1 | h1
  · rw [h1]; exact he
  · exact h f (mem_all.1 (mem_but.1 h1).1)
theorem OkT.del {T : Tab} {i : Nat} (h : OkT T) (hg : Key.Good T i) (s : ByteArray) : OkT (Key.del T s) := fun f hf => h f (mem_all.1 (mem_but.1 ((all_del hg s).subset (mem_all.2 hf))).1)
/- Each key that ends has its item. -/
def Cov (T : Tab) (m : List It) : Prop := ∀ e, some e ∈ T → e.exp ≠ 0 → (⟨e.exp, e.key⟩ : It) ∈ m
theorem Cov.put {T : Tab} {m m' : List It} {i : Nat} (h : Cov T m) (hg : Key.Good T i) {e : Ent} (hm : ∀ x ∈ m, x ∈ m') (he : e.exp ≠ 0 → (⟨e.exp, e.key⟩ : It) ∈ m') : Cov (Key.put T e) m' := fun f hf h0 => by
  rcases List.mem_cons.1 ((all_put hg e).subset (mem_all.2 hf)) with h1 | h1
  · rw [h1] at h0 ⊢; exact he h0
  · exact hm _ (h f (mem_all.1 (mem_but.1 h1).1) h0)
theorem Cov.del {T : Tab} {m : List It} {i : Nat} (h : Cov T m) (hg : Key.Good T i) (s : ByteArray) : Cov (Key.del T s) m := fun f hf h0 => h f (mem_all.1 (mem_but.1 ((all_del hg s).subset (mem_all.2 hf))).1) h0
/- A bucket. -/
structure Bk where
  id : Int
  gen : Nat
  q1 : Int
  q2 : Int
  q3 : Int
  seq : Nat
  serial : Nat
  bytes : Int
  charged : Int
  toks : List Rgt.Tok
structure Ok (B : Bk) (T : Tab) (m : List It) (i : Nat) : Prop where
  bytes : B.bytes = tot (all T)
  cov : Cov T m
  few : m.length ≤ i
  okm : ∀ x ∈ m, x.time < 18446744073709551616 ∧ x.key.size ≤ 64
  okt : OkT T
  id : -9223372036854775808 ≤ B.id ∧ B.id ≤ 9223372036854775807
  gen : B.gen < 4294967296
  seq : B.seq < 18446744073709551616
  serial : B.serial < 4294967296
  charged : 0 ≤ B.charged ∧ B.charged ≤ 2000 * (i : Int)
def isOf (T : Tab) (x : It) : Bool := match Key.ask T x.key with
  | some e => decide (e.exp = x.time)
  | none => false
theorem Cov.less {T : Tab} {m m' : List It} {i : Nat} (h : Cov T m) (hg : Key.Good T i) (hm : ∀ x ∈ m, isOf T x = true → x ∈ m') : Cov T m' := fun e he h0 => by
  refine hm _ (h e he h0) ?_
  unfold isOf
  rw [(Key.ask_iff hg.wf hg.free).2 ⟨he, rfl⟩]
  exact decide_eq_true rfl
/- A counter that is at least one more than n. -/
def bump (top c n : Nat) : Nat := max c (min (n + 1) top)
def b64 : Nat → Nat → Nat := bump 18446744073709551615
def b32 : Nat → Nat → Nat := bump 4294967295
theorem bump_le {top c n : Nat} (h : c ≤ top) : bump top c n ≤ top := by unfold bump; omega
/- What a record makes. -/
abbrev Spt := Int × Int × Int
def entOf (r : Rcd) (p : Spt) : Ent := ⟨r.key, p.1, p.2.1, p.2.2, r.version, r.expiry, r.val.size⟩
def tokOf (r : Rcd) : Rgt.Tok := ⟨r.serial, r.rights, r.secret⟩
def Own (B : Bk) (r : Rcd) : Prop := Rec.May r ∧ r.bucket = B.id ∧ r.gen = B.gen
instance (B : Bk) (r : Rcd) : Decidable (Own B r) := by unfold Own; infer_instance
def told (B : Bk) (r : Rcd) : Bool := decide (Own B r) && (r.kind == 1 || r.kind == 3 || r.kind == 4 || (r.kind == 5 && decide (Rgt.putErr r.serial r.rights B.toks = 0)) || r.kind == 6)
def made (B : Bk) (r : Rcd) : Bk :=
  if r.kind = 1 then { B with q1 := r.keys, q2 := r.bytes, q3 := r.budget, seq := r.seq, serial := r.serial }
  else if r.kind = 3 ∨ r.kind = 4 then { B with seq := b64 B.seq r.version, charged := B.charged + Rec.costOf r }
  else if r.kind = 5 then { B with serial := b32 B.serial r.serial, toks := Rgt.put (tokOf r) B.toks, charged := B.charged + Rec.costOf r }
  else { B with toks := Rgt.del r.serial B.toks, charged := B.charged + Rec.costOf r }
def madeT (T : Tab) (r : Rcd) (p : Spt) : Tab := if r.kind = 3 then Key.put T (entOf r p) else if r.kind = 4 then Key.del T r.key else T
def app (B : Bk) (T : Tab) (r : Rcd) (p : Spt) : Bk := if told B r then { made B r with bytes := tot (all (madeT T r p)) } else B
def appT (B : Bk) (T : Tab) (r : Rcd) (p : Spt) : Tab := if told B r then madeT T r p else T
end Go.Proofs.Ytgjofinbdigmcaa.Buk
namespace Go.Proofs.Ytgjofinbdigmcaa.Buk
open Go.Proofs.Ytgjofinbdigmcaa.Mem
open Go.ChangeShapes Go.WideShapes Go.ChangeAt Go.RowKit
set_option linter.unusedVariables false
set_option linter.unusedSimpArgs false
structure Bl where
  p : Nat
  kp : Nat
  kg : Nat
  hp : Nat
  hv : Value
  eb : Nat
  tp : Nat
  tm : Nat
def Foot (s : Bl) (k : Nat) : Prop := k = s.p ∨ k = s.kp ∨ k = s.kg ∨ k = s.hp ∨ s.hv.ownBlock = some k ∨ k = s.tp ∨ k = s.tm
def bcells (B : Bk) (s : Bl) : Array Value := #[.int .i64 B.id, .int .u32 (B.gen : Int), .int .i64 B.q1, .int .i64 B.q2, .int .i64 B.q3, .int .u64 (B.seq : Int), .int .u32 (B.serial : Int), .pointer (some ⟨s.kp, 0, none⟩), .pointer (some ⟨s.hp, 0, none⟩), .pointer (some ⟨s.tp, 0, none⟩), .int .i64 B.bytes, .int .i64 B.charged]
structure BM (w : World) (s : Bl) (B : Bk) (T : Tab) (m : List It) (i : Nat) : Prop where
  blk : Blk w s.p 56 (bcells B s)
  key : Key.KAt w s.kp s.kg T i (Key.cnt T)
  heap : Exp.HM w s.eb s.hp s.hv m
  tok : Rgt.RAt w s.tp s.tm B.toks
structure Step (w : World) (s s' : Bl) (w' : World) : Prop where
  but : But (Foot s) w w'
  new : ∀ k, Foot s' k → Foot s k ∨ w.heap.size ≤ k
  p : s'.p = s.p
theorem Step.refl (w : World) (s : Bl) : Step w s s w := ⟨But.refl _ _, fun k h => .inl h, rfl⟩
theorem Step.trans {w w1 w2 : World} {s s1 s2 : Bl} (h : Step w s s1 w1) (k : Step w1 s1 s2 w2) : Step w s s2 w2 where
  but := h.but.trans k.but (fun i hi hf => by
    rcases h.new i hf with h1 | h1
    · exact h1
    · omega)
  new j hj := by
    rcases k.new j hj with h1 | h1
    · exact h.new j h1
    · exact .inr (Nat.le_trans h.but.size h1)
  p := k.p.trans h.p
theorem Step.of_new {w w' : World} {s : Bl} (h : But (fun _ => False) w w') : Step w s s w' := ⟨h.mono (fun _ _ h => h.elim), fun k h => .inl h, rfl⟩
structure Apart (s : Bl) : Prop where
  nums : s.p ≠ s.kp ∧ s.p ≠ s.kg ∧ s.p ≠ s.hp ∧ s.p ≠ s.tp ∧ s.p ≠ s.tm ∧ s.kp ≠ s.kg ∧ s.kp ≠ s.hp ∧ s.kp ≠ s.tp ∧ s.kp ≠ s.tm ∧ s.kg ≠ s.hp ∧ s.kg ≠ s.tp ∧ s.kg ≠ s.tm ∧ s.hp ≠ s.tp ∧ s.hp ≠ s.tm ∧ s.tp ≠ s.tm
  row : ∀ k, s.hv.ownBlock = some k → k ≠ s.p ∧ k ≠ s.kp ∧ k ≠ s.kg ∧ k ≠ s.hp ∧ k ≠ s.tp ∧ k ≠ s.tm
section
variable {w w' : World} {s : Bl} {B : Bk} {T : Tab} {m : List It} {i : Nat}
theorem own_map_ne {H : Type} {P : Program} {kt : TypeId} {R : Value → Option (DataW H × List MemPlace)} {b n : Nat} {D : DataW H} {base : Nat} {e : TypeId} {size len : Nat} {v : Value} {xs : List Value} (h : w.ownsRow base e size v len xs) (hm : w.ownsMap P kt R b n D) : v.ownBlock ≠ some b := by
  intro hb
  rcases h.2 with ⟨hv, _⟩ | ⟨g, cap, cur, hv, _, hh, _⟩
  · rw [hv] at hb; cases hb
  · rw [hv] at hb
    simp [Value.ownBlock] at hb
    subst hb
    obtain ⟨es, clock, hx, r⟩ := hm
    rw [hx] at hh
    cases hh
theorem BM.apart (h : BM w s B T m i) : Apart s := by
  obtain ⟨l, hA, _⟩ := h.heap
  have hp := h.blk
  have hk := h.key.blk
  have hg := h.key.row
  have he := hA.blk
  have ht := h.tok.blk
  refine ⟨⟨hp.ne_ hk (by decide), hp.ne_ hg (by decide), hp.ne_ he (by decide), hp.ne_ ht (by decide), (h.tok.ne hp).symm, hk.ne_ hg (by decide), hk.ne_ he (by decide), hk.ne_ ht (by decide), (h.tok.ne hk).symm, hg.ne_ he (by decide), hg.ne_ ht (by decide), (h.tok.ne hg).symm, he.ne_ ht (by decide), (h.tok.ne he).symm, (h.tok.ne ht).symm⟩, fun k e => ?_⟩
  obtain ⟨n, D, hm, _⟩ := h.tok.map
  refine ⟨?_, ?_, ?_, ?_, ?_, ?_⟩ <;> rintro rfl
  · exact own_blk_ne hA.own hp (by decide) e
  · exact own_blk_ne hA.own hk (by decide) e
  · exact own_blk_ne hA.own hg (by decide) e
  · exact own_blk_ne hA.own he (by decide) e
  · exact own_blk_ne hA.own ht (by decide) e
  · exact own_map_ne hA.own hm e
theorem BM.lt (h : BM w s B T m i) : ∀ k, Foot s k → k < w.heap.size := by
  rintro k (rfl | rfl | rfl | rfl | e | rfl | rfl)
  · exact h.blk.lt
  · exact h.key.blk.lt
  · exact h.key.row.lt
  · exact h.heap.lt.1
  · exact (h.heap.lt.2 k e).2.1
  · exact h.tok.lt.1
  · exact h.tok.lt.2
theorem BM.but {F : Nat → Prop} (h : BM w s B T m i) (hb : But F w w') (hF : ∀ k, Foot s k → ¬ F k) : BM w' s B T m i where
  blk := h.blk.but hb (hF _ (.inl rfl))
  key := h.key.but hb (hF _ (.inr (.inl rfl))) (hF _ (.inr (.inr (.inl rfl))))
  heap := h.heap.but hb (hF _ (.inr (.inr (.inr (.inl rfl))))) (fun k e => hF _ (.inr (.inr (.inr (.inr (.inl e))))))
  tok := h.tok.but hb (hF _ (.inr (.inr (.inr (.inr (.inr (.inl rfl))))))) (hF _ (.inr (.inr (.inr (.inr (.inr (.inr rfl)))))))
theorem BM.new (h : BM w s B T m i) (hb : But (fun _ => False) w w') : BM w' s B T m i := h.but hb (fun _ _ h => h)
theorem BM.step_key (h : BM w s B T m i) {g' : Nat} {T' : Tab} {i' : Nat} (hk : Key.KAt w' s.kp g' T' i' (Key.cnt T')) (hb : But (fun k => k = s.kp ∨ k = s.kg) w w') (hg : g' = s.kg ∨ w.heap.size ≤ g') : BM w' { s with kg := g' } B T' m i' ∧ Step w s { s with kg := g' } w' := by
  obtain ⟨⟨a1, a2, a3, a4, a5, a6, a7, a8, a9, a10, a11, a12, a13, a14, a15⟩, ar⟩ := h.apart
  refine ⟨⟨h.blk.but hb (by omega), hk, h.heap.but hb (by omega) (fun k e => by have := ar k e; omega), h.tok.but hb (by omega) (by omega)⟩, ⟨hb.mono (fun k _ e => ?_), fun k hf => ?_, rfl⟩⟩
  · rcases e with rfl | rfl
    · exact .inr (.inl rfl)
    · exact .inr (.inr (.inl rfl))
  · rcases hf with e | e | e | e
    · exact .inl (.inl e)
    · exact .inl (.inr (.inl e))
    · have e : k = g' := e
      subst e
      rcases hg with e | e
      · exact .inl (.inr (.inr (.inl e)))
      · exact .inr e
    · exact .inl (.inr (.inr (.inr e)))
theorem BM.step_heap (h : BM w s B T m i) {v' : Value} {m' : List It} (hm : Exp.HM w' s.eb s.hp v' m') (hb : But (Exp.Foot s.hp s.hv) w w') (hn : Exp.Next w s.hv v') : BM w' { s with hv := v' } B T m' i ∧ Step w s { s with hv := v' } w' := by
  obtain ⟨⟨a1, a2, a3, a4, a5, a6, a7, a8, a9, a10, a11, a12, a13, a14, a15⟩, ar⟩ := h.apart
  have hf : ∀ k, Exp.Foot s.hp s.hv k → k = s.hp ∨ s.hv.ownBlock = some k := fun k e => e.elim .inl (fun e => .inr e.symm)
  have hno : ∀ k, k ≠ s.hp → (∀ j, s.hv.ownBlock = some j → j ≠ k) → ¬ Exp.Foot s.hp s.hv k := fun k h1 h2 e => (hf k e).elim h1 (fun e => h2 k e rfl)
  refine ⟨⟨h.blk.but hb (hno _ (by omega) (fun j e => (ar j e).1)), h.key.but hb (hno _ (by omega) (fun j e => (ar j e).2.1)) (hno _ (by omega) (fun j e => (ar j e).2.2.1)), hm, h.tok.but hb (hno _ (by omega) (fun j e => (ar j e).2.2.2.2.1)) (hno _ (by omega) (fun j e => (ar j e).2.2.2.2.2))⟩, ⟨hb.mono (fun k _ e => ?_), fun k e => ?_, rfl⟩⟩
  · rcases hf k e with e | e
    · exact .inr (.inr (.inr (.inl e)))
    · exact .inr (.inr (.inr (.inr (.inl e))))
  · rcases e with e | e | e | e | e | e
    · exact .inl (.inl e)
    · exact .inl (.inr (.inl e))
    · exact .inl (.inr (.inr (.inl e)))
    · exact .inl (.inr (.inr (.inr (.inl e))))
    · rcases hn with hn | hn
      · exact .inl (.inr (.inr (.inr (.inr (.inl (hn.symm.trans e))))))
      · exact .inr (hn k e)
    · exact .inl (.inr (.inr (.inr (.inr (.inr e)))))
theorem BM.step_tok (h : BM w s B T m i) {ts : List Rgt.Tok} (ht : Rgt.RAt w' s.tp s.tm ts) (hb : But (fun k => k = s.tm) w w') : BM w' s { B with toks := ts } T m i ∧ Step w s s w' := by
  obtain ⟨⟨a1, a2, a3, a4, a5, a6, a7, a8, a9, a10, a11, a12, a13, a14, a15⟩, ar⟩ := h.apart
  exact ⟨⟨h.blk.but hb (by omega), h.key.but hb (by omega) (by omega), h.heap.but hb (by omega) (fun k e => by have := ar k e; omega), ht⟩, ⟨hb.mono (fun k _ e => .inr (.inr (.inr (.inr (.inr (.inr e)))))), fun k hf => .inl hf, rfl⟩⟩
theorem BM.step_cell (h : BM w s B T m i) (n : Nat) (u : Value) {B' : Bk} (he : (bcells B s).setIfInBounds n u = bcells B' s) (ht : B'.toks = B.toks) : BM (w.setCell ⟨s.p, n, none⟩ u) s B' T m i ∧ Step w s s (w.setCell ⟨s.p, n, none⟩ u) := by
  obtain ⟨⟨a1, a2, a3, a4, a5, a6, a7, a8, a9, a10, a11, a12, a13, a14, a15⟩, ar⟩ := h.apart
  have hb : But (fun k => k = s.p) w (w.setCell ⟨s.p, n, none⟩ u) := (But.refl (fun k => k = s.p) w).setCell (p := ⟨s.p, n, none⟩) rfl u
  have h1 := h.blk.set_ n u
  rw [he] at h1
  refine ⟨⟨h1, h.key.but hb (by omega) (by omega), h.heap.but hb (by omega) (fun k e => by have := ar k e; omega), ?_⟩, ⟨hb.mono (fun k _ e => .inl e), fun k hf => .inl hf, rfl⟩⟩
  rw [ht]
  exact h.tok.but hb (by omega) (by omega)
theorem BM.cell (h : BM w s B T m i) (n : Nat) : w.cell? ⟨s.p, n, none⟩ = (bcells B s)[n]? := h.blk.cell n
end
end Go.Proofs.Ytgjofinbdigmcaa.Buk

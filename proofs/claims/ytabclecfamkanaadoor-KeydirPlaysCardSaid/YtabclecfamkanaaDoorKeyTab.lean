/- Tables of keys: an entry put, the table laid anew in more places, a key taken out; what holds of each table that comes of it. -/
import Derived.Test.YtabclecfamkanaaDoorKeyGap
namespace Go.Proofs.YtabclecfamkanaaDoor.Key
open Go.Proofs.YtabclecfamkanaaDoor.Mem Go.Proofs.YtabclecfamkanaaDoor.Fnv
set_option linter.unusedVariables false

theorem Gap.mem_moved {T : Tab} {a g c Q : Nat} {e f : Ent} (G : Gap T a g c Q) (he : look T (pl T.length a c) = some e) : some f ∈ moved T T.length a g c e ↔ some f ∈ T := by
  have hn : 0 < T.length := by have := G.qn; omega
  have hcq := G.cq
  have hqn := G.qn
  have hgc := G.gc
  have hcg : pl T.length a g ≠ pl T.length a c := pl_ne (by omega) (by omega)
  rw [look_mem, look_mem]
  constructor
  · rintro ⟨j, hj⟩
    rw [look_moved hn] at hj
    split at hj
    · exact ⟨_, he.trans hj⟩
    · split at hj
      · cases hj
      · exact ⟨j, hj⟩
  · rintro ⟨j, hj⟩
    by_cases h1 : pl T.length a c = j
    · refine ⟨pl T.length a g, ?_⟩
      rw [look_moved hn, if_pos rfl, ← he, h1, hj]
    · refine ⟨j, ?_⟩
      rw [look_moved hn, if_neg ?_, if_neg h1, hj]
      rintro rfl
      rw [G.hg] at hj
      cases hj
theorem Gap.cnt_moved {T : Tab} {a g c Q : Nat} {e : Ent} (G : Gap T a g c Q) (he : look T (pl T.length a c) = some e) : cnt (moved T T.length a g c e) = cnt T := by
  have hn : 0 < T.length := by have := G.qn; omega
  have hcq := G.cq
  have hqn := G.qn
  have hgc := G.gc
  have hcg : pl T.length a g ≠ pl T.length a c := pl_ne (by omega) (by omega)
  have h1 := cnt_set (T := T) (i := pl T.length a c) (pl_lt hn) none
  have h2 := cnt_set (T := T.set (pl T.length a c) none) (i := pl T.length a g) (by rw [List.length_set]; exact pl_lt hn) (some e)
  rw [look_set_ne hcg.symm, G.hg] at h2
  rw [he] at h1
  simp at h1 h2
  unfold moved
  omega
def close (n a : Nat) : Nat → Tab → Nat → Nat → Tab
  | 0, T, g, c => T
  | f + 1, T, g, c => match look T (pl n a c) with
    | none => T
    | some e => if c - g ≤ back n e (pl n a c) then close n a f (moved T n a g c e) c (c + 1) else close n a f T g (c + 1)
theorem close_none {n a f g c : Nat} {T : Tab} (h : look T (pl n a c) = none) : close n a f T g c = T := by
  cases f with
  | zero => rfl
  | succ f => simp [close, h]
theorem close_move {n a f g c : Nat} {T : Tab} {e : Ent} (h : look T (pl n a c) = some e) (hb : c - g ≤ back n e (pl n a c)) : close n a (f + 1) T g c = close n a f (moved T n a g c e) c (c + 1) := by
  simp [close, h, hb]
theorem close_stay {n a f g c : Nat} {T : Tab} {e : Ent} (h : look T (pl n a c) = some e) (hb : ¬ c - g ≤ back n e (pl n a c)) : close n a (f + 1) T g c = close n a f T g (c + 1) := by
  simp [close, h, hb]
theorem close_all {n a : Nat} : ∀ {f : Nat} {T : Tab} {g c Q : Nat}, Gap T a g c Q → T.length = n → Q - c < f → WF (close n a f T g c) ∧ (close n a f T g c).length = n ∧ (∀ e, some e ∈ close n a f T g c ↔ some e ∈ T) ∧ cnt (close n a f T g c) = cnt T
  | 0, T, g, c, Q, _, _, h => by omega
  | f + 1, T, g, c, Q, G, hl, h => by
    subst hl
    cases he : look T (pl T.length a c) with
    | none =>
      rw [close_none he]
      exact ⟨G.shut he, rfl, fun _ => Iff.rfl, rfl⟩
    | some e =>
      by_cases hb : c - g ≤ back T.length e (pl T.length a c)
      · rw [close_move he hb]
        have G2 := G.move he hb
        have h2 := G2.cq
        obtain ⟨k1, k2, k3, k4⟩ := close_all (n := T.length) (f := f) G2 (moved_length ..) (by omega)
        exact ⟨k1, k2, fun x => (k3 x).trans (G.mem_moved he), k4.trans (G.cnt_moved he)⟩
      · rw [close_stay he hb]
        have G2 := G.stay he hb
        have h2 := G2.cq
        exact close_all (n := T.length) (f := f) G2 rfl (by omega)
def gone (T : Tab) (s : ByteArray) : Tab := close T.length (find T s) T.length (T.set (find T s) none) 0 1
def del (T : Tab) (s : ByteArray) : Tab := if (ask T s).isSome then gone T s else T
theorem del_none {T : Tab} {s : ByteArray} (h : ask T s = none) : del T s = T := by simp [del, h]
theorem del_some {T : Tab} {s : ByteArray} {e : Ent} (h : ask T s = some e) : del T s = gone T s := by simp [del, h]
theorem gone_all {T : Tab} (hw : WF T) (hf : free T) {s : ByteArray} {e : Ent} (he : ask T s = some e) : WF (gone T s) ∧ (gone T s).length = T.length ∧ (∀ f, some f ∈ gone T s ↔ (some f ∈ T ∧ f.key ≠ s)) ∧ cnt (gone T s) + 1 = cnt T := by
  have hl : look T (find T s) = some e := he
  have hj := look_lt hl
  obtain ⟨Q, G⟩ := Gap.start hw hf hl
  have hq := G.qn
  rw [List.length_set] at hq
  obtain ⟨k1, k2, k3, k4⟩ := close_all (n := T.length) (f := T.length) G (by simp) (by omega)
  refine ⟨k1, k2, fun f => (k3 f).trans ?_, ?_⟩
  · rw [look_mem, look_mem]
    constructor
    · rintro ⟨j, h1⟩
      rw [look_set hj] at h1
      split at h1
      · cases h1
      · rename_i hne
        refine ⟨⟨j, h1⟩, ?_⟩
        rintro rfl
        exact hne (hw _ _ h1)
    · rintro ⟨⟨j, h1⟩, h2⟩
      refine ⟨j, ?_⟩
      rw [look_set_ne]
      · exact h1
      · rintro rfl
        exact h2 (find_key hf h1)
  · have h1 := cnt_set hj none
    rw [hl] at h1
    simp at h1
    unfold gone
    omega
/- The table laid anew. -/
def lays (A : Tab) (o : Option Ent) : Tab := match o with | none => A | some e => lay A e
def part (T : Tab) (m k : Nat) : Tab := (T.take k).foldl lays (List.replicate m none)
def again (T : Tab) (m : Nat) : Tab := part T m T.length
theorem part_zero (T : Tab) (m : Nat) : part T m 0 = List.replicate m none := by simp [part]
theorem take_look {T : Tab} {k : Nat} (h : k < T.length) : T.take (k + 1) = T.take k ++ [look T k] := by
  rw [List.take_succ_eq_append_getElem h]
  simp [look, List.getD, h]
theorem part_succ {T : Tab} {m k : Nat} (h : k < T.length) : part T m (k + 1) = lays (part T m k) (look T k) := by
  unfold part
  rw [take_look h, List.foldl_append]
  rfl
theorem part_none {T : Tab} {m k : Nat} (h : k < T.length) (he : look T k = none) : part T m (k + 1) = part T m k := by rw [part_succ h, he]; rfl
theorem part_some {T : Tab} {m k : Nat} {e : Ent} (h : k < T.length) (he : look T k = some e) : part T m (k + 1) = lay (part T m k) e := by rw [part_succ h, he]; rfl
theorem cnt_take {T : Tab} {k : Nat} (h : k < T.length) : cnt (T.take (k + 1)) = cnt (T.take k) + (if (look T k).isSome then 1 else 0) := by
  unfold cnt
  rw [take_look h, List.countP_append]
  simp
theorem cnt_take_le (T : Tab) (k : Nat) : cnt (T.take k) ≤ cnt T := by
  unfold cnt
  exact (List.take_sublist k T).countP_le
theorem part_all {T : Tab} (hw : WF T) {m : Nat} (hm : cnt T < m) : ∀ k, k ≤ T.length → WF (part T m k) ∧ (part T m k).length = m ∧ (∀ f, some f ∈ part T m k ↔ ∃ j, j < k ∧ look T j = some f) ∧ cnt (part T m k) = cnt (T.take k)
  | 0, _ => by
    rw [part_zero]
    refine ⟨wf_new m, by simp, fun f => ⟨fun h => ?_, fun ⟨j, h, _⟩ => by omega⟩, by rw [cnt_new]; simp [cnt]⟩
    have := (List.mem_replicate.1 h).2
    cases this
  | k + 1, hk => by
    obtain ⟨k1, k2, k3, k4⟩ := part_all hw hm k (by omega)
    have hc := cnt_take (T := T) (k := k) (by omega)
    cases he : look T k with
    | none =>
      rw [part_none (by omega) he]
      refine ⟨k1, k2, fun f => (k3 f).trans ⟨fun ⟨j, h1, h2⟩ => ⟨j, by omega, h2⟩, fun ⟨j, h1, h2⟩ => ⟨j, ?_, h2⟩⟩, ?_⟩
      · have : j ≠ k := by rintro rfl; rw [he] at h2; cases h2
        omega
      · rw [he] at hc; simp at hc; omega
    | some e =>
      rw [part_some (by omega) he]
      have hle := cnt_take_le T k
      have hf : free (part T m k) := free_of_cnt (by omega)
      have hno : ∀ f, some f ∈ part T m k → f.key ≠ e.key := by
        intro f hf hk
        obtain ⟨j, h1, h2⟩ := (k3 f).1 hf
        have := look_one hw h2 he hk
        omega
      refine ⟨wf_lay k1 hf e, by rw [lay_length, k2], fun f => (mem_lay k1 hf).trans ?_, ?_⟩
      · constructor
        · rintro (rfl | ⟨h1, _⟩)
          · exact ⟨k, by omega, he⟩
          · obtain ⟨j, h2, h3⟩ := (k3 f).1 h1
            exact ⟨j, by omega, h3⟩
        · rintro ⟨j, h1, h2⟩
          by_cases hjk : j = k
          · subst hjk
            rw [he] at h2
            injection h2 with h2
            exact .inl h2.symm
          · have := (k3 f).2 ⟨j, by omega, h2⟩
            exact .inr ⟨this, hno f this⟩
      · rw [cnt_lay hf]
        have hn : ask (part T m k) e.key = none := by
          cases ha : ask (part T m k) e.key with
          | none => rfl
          | some f =>
            obtain ⟨h1, h2⟩ := (ask_iff k1 hf).1 ha
            exact absurd h2 (hno f h1)
        rw [hn, k4]
        rw [he] at hc
        simp at hc ⊢
        omega
theorem again_all {T : Tab} (hw : WF T) {m : Nat} (hm : cnt T < m) : WF (again T m) ∧ (again T m).length = m ∧ (∀ f, some f ∈ again T m ↔ some f ∈ T) ∧ cnt (again T m) = cnt T := by
  obtain ⟨k1, k2, k3, k4⟩ := part_all hw hm T.length (Nat.le_refl _)
  refine ⟨k1, k2, fun f => (k3 f).trans ?_, ?_⟩
  · rw [look_mem]
    exact ⟨fun ⟨j, _, h⟩ => ⟨j, h⟩, fun ⟨j, h⟩ => ⟨j, look_lt h, h⟩⟩
  · show cnt (part T m T.length) = cnt T
    rw [k4, List.take_of_length_le (Nat.le_refl _)]
/- An entry is put. -/
def tight (T : Tab) : Prop := 3 * T.length < 4 * (cnt T + 1)
instance (T : Tab) : Decidable (tight T) := by unfold tight; infer_instance
def put (T : Tab) (e : Ent) : Tab := if ask T e.key = none ∧ tight T then lay (again T (2 * T.length)) e else lay T e
theorem put_tight {T : Tab} {e : Ent} (h : ask T e.key = none) (ht : tight T) : put T e = lay (again T (2 * T.length)) e := by simp [put, h, ht]
theorem put_wide {T : Tab} {e : Ent} (ht : ¬ tight T) : put T e = lay T e := by simp [put, ht]
theorem put_there {T : Tab} {e f : Ent} (h : ask T e.key = some f) : put T e = lay T e := by simp [put, h]
/- What holds of each table, behind i deeds. -/
structure Good (T : Tab) (i : Nat) : Prop where
  wf : WF T
  pow : ∃ k, 3 ≤ k ∧ T.length = 2 ^ k
  load : 4 * cnt T ≤ 3 * T.length
  few : cnt T ≤ i
  size : T.length ≤ 8 + 8 * i
theorem Good.eight {T : Tab} {i : Nat} (h : Good T i) : 8 ≤ T.length := by
  obtain ⟨k, h1, h2⟩ := h.pow
  rw [h2]
  exact Nat.pow_le_pow_right (n := 2) (by omega) h1
theorem Good.free {T : Tab} {i : Nat} (h : Good T i) : Key.free T := free_of_cnt (by have := h.eight; have := h.load; omega)
theorem Good.pow30 {T : Tab} {i : Nat} (h : Good T i) (hi : i ≤ 1000) : Pow (T.length : Int) := by
  obtain ⟨k, h1, h2⟩ := h.pow
  refine ⟨k, ?_, by rw [h2]⟩
  have h3 : 2 ^ k ≤ 2 ^ 30 := by rw [← h2]; have := h.size; omega
  exact (Nat.pow_le_pow_iff_right (by omega)).1 h3
theorem good_new : Good (List.replicate 8 none) 0 where
  wf := wf_new 8
  pow := ⟨3, by omega, by simp⟩
  load := by rw [cnt_new]; omega
  few := by rw [cnt_new]; omega
  size := by simp
theorem Good.more {T : Tab} {i : Nat} (h : Good T i) : Good T (i + 1) := ⟨h.wf, h.pow, h.load, by have := h.few; omega, by have := h.size; omega⟩
theorem Good.wide {T : Tab} {i : Nat} (h : Good T i) : Good (again T (2 * T.length)) i ∨ ¬ tight T := by
  by_cases ht : tight T
  · have h8 := h.eight
    obtain ⟨k1, k2, k3, k4⟩ := again_all h.wf (m := 2 * T.length) (by have := h.load; omega)
    obtain ⟨k, h1, h2⟩ := h.pow
    refine .inl ⟨k1, ⟨k + 1, by omega, by rw [k2, h2, Nat.pow_succ]; omega⟩, by have := h.load; omega, by rw [k4]; exact h.few, ?_⟩
    have := h.few
    unfold tight at ht
    omega
  · exact .inr ht
theorem Good.lay {T : Tab} {i : Nat} (h : Good T i) (e : Ent) (hn : ask T e.key = none → ¬ tight T) : Good (lay T e) (i + 1) := by
  have hc := cnt_lay h.free e
  refine ⟨wf_lay h.wf h.free e, by rw [lay_length]; exact h.pow, ?_, ?_, by rw [lay_length]; have := h.size; omega⟩
  · rw [lay_length]
    cases ha : ask T e.key with
    | none =>
      have := hn ha
      unfold tight at this
      rw [ha] at hc
      simp at hc
      omega
    | some f =>
      rw [ha] at hc
      simp at hc
      have := h.load
      omega
  · have := h.few
    split at hc <;> omega
theorem again_ask {T : Tab} {i : Nat} (h : Good T i) (h2 : Good (again T (2 * T.length)) i) (s : ByteArray) : ask (again T (2 * T.length)) s = ask T s := by
  obtain ⟨k1, k2, k3, k4⟩ := again_all h.wf (m := 2 * T.length) (by have := h.load; have := h.eight; omega)
  apply Option.ext
  intro f
  rw [ask_iff h2.wf h2.free, ask_iff h.wf h.free, k3]
theorem again_wide {T : Tab} {i : Nat} (h : Good T i) : ¬ tight (again T (2 * T.length)) := by
  obtain ⟨k1, k2, k3, k4⟩ := again_all h.wf (m := 2 * T.length) (by have := h.load; have := h.eight; omega)
  unfold tight
  have := h.load
  have := h.eight
  omega
theorem Good.put {T : Tab} {i : Nat} (h : Good T i) (e : Ent) : Good (put T e) (i + 1) := by
  by_cases hp : ask T e.key = none ∧ tight T
  · rw [put_tight hp.1 hp.2]
    exact (h.wide.resolve_right (fun k => k hp.2)).lay e (fun _ => again_wide h)
  · rw [show Key.put T e = Key.lay T e by simp only [Key.put, if_neg hp]]
    exact h.lay e (fun h1 h2 => hp ⟨h1, h2⟩)
theorem ask_put {T : Tab} {i : Nat} (h : Good T i) (e : Ent) (s : ByteArray) : ask (put T e) s = if s = e.key then some e else ask T s := by
  have hg := h.put e
  by_cases hp : ask T e.key = none ∧ tight T
  · have hw := h.wide.resolve_right (fun k => k hp.2)
    rw [put_tight hp.1 hp.2] at hg ⊢
    rw [ask_lay hw.wf hw.free hg.free, again_ask h hw]
  · rw [show Key.put T e = Key.lay T e by simp only [Key.put, if_neg hp]] at hg ⊢
    exact ask_lay h.wf h.free hg.free
theorem cnt_put {T : Tab} {i : Nat} (h : Good T i) (e : Ent) : cnt (put T e) = cnt T + (if (ask T e.key).isSome then 0 else 1) := by
  by_cases hp : ask T e.key = none ∧ tight T
  · have hw := h.wide.resolve_right (fun k => k hp.2)
    obtain ⟨k1, k2, k3, k4⟩ := again_all h.wf (m := 2 * T.length) (by have := h.load; have := h.eight; omega)
    rw [put_tight hp.1 hp.2, cnt_lay hw.free, again_ask h hw, k4]
  · rw [show Key.put T e = Key.lay T e by simp only [Key.put, if_neg hp]]
    exact cnt_lay h.free e
theorem Good.del {T : Tab} {i : Nat} (h : Good T i) (s : ByteArray) : Good (del T s) (i + 1) := by
  cases ha : ask T s with
  | none => rw [del_none ha]; exact h.more
  | some e =>
    rw [del_some ha]
    obtain ⟨k1, k2, k3, k4⟩ := gone_all h.wf h.free ha
    exact ⟨k1, by rw [k2]; exact h.pow, by rw [k2]; have := h.load; omega, by have := h.few; omega, by rw [k2]; have := h.size; omega⟩
theorem ask_del {T : Tab} {i : Nat} (h : Good T i) (s x : ByteArray) : ask (del T s) x = if x = s then none else ask T x := by
  have hg := h.del s
  cases ha : ask T s with
  | none =>
    rw [del_none ha]
    split
    · rename_i hx; rw [hx, ha]
    · rfl
  | some e =>
    rw [del_some ha] at hg ⊢
    obtain ⟨k1, k2, k3, k4⟩ := gone_all h.wf h.free ha
    apply Option.ext
    intro f
    rw [ask_iff hg.wf hg.free, k3]
    by_cases hx : x = s
    · rw [if_pos hx]
      subst hx
      constructor
      · rintro ⟨⟨_, h1⟩, h2⟩; exact absurd h2 h1
      · intro h1; cases h1
    · rw [if_neg hx, ask_iff h.wf h.free]
      constructor
      · rintro ⟨⟨h1, _⟩, h2⟩; exact ⟨h1, h2⟩
      · rintro ⟨h1, h2⟩; exact ⟨⟨h1, fun h3 => hx (h2.symm.trans h3)⟩, h2⟩
theorem cnt_del {T : Tab} {i : Nat} (h : Good T i) (s : ByteArray) : cnt (del T s) + (if (ask T s).isSome then 1 else 0) = cnt T := by
  cases ha : ask T s with
  | none => rw [del_none ha]; simp
  | some e =>
    rw [del_some ha]
    obtain ⟨k1, k2, k3, k4⟩ := gone_all h.wf h.free ha
    simpa using k4
end Go.Proofs.YtabclecfamkanaaDoor.Key

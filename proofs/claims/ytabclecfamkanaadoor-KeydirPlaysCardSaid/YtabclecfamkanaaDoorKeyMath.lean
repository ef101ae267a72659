/- Tables of keys as lists of places: where a key lies, an entry laid, a table laid anew, a gap closed in two ways that come to one. -/
import Derived.Test.YtabclecfamkanaaDoorFnvWalks
namespace Go.Proofs.YtabclecfamkanaaDoor.Key
open Go.Proofs.YtabclecfamkanaaDoor.Mem Go.Proofs.YtabclecfamkanaaDoor.Fnv
set_option linter.unusedVariables false

structure Ent where
  key : ByteArray
  seg : Int
  at_ : Int
  len : Int
  ver : Nat
  exp : Nat
  size : Int
deriving DecidableEq

abbrev Tab := List (Option Ent)
def hm (n : Nat) (s : ByteArray) : Nat := hashOf s % n
def look (T : Tab) (i : Nat) : Option Ent := T.getD i none
/- Whether a search for s ends at place i. -/
def stops (T : Tab) (s : ByteArray) (i : Nat) : Bool := match look T i with | none => true | some e => decide (e.key = s)
def dist (T : Tab) (s : ByteArray) : Nat := (List.range T.length).findIdx (fun d => stops T s ((hm T.length s + d) % T.length))
def find (T : Tab) (s : ByteArray) : Nat := (hm T.length s + dist T s) % T.length
def free (T : Tab) : Prop := ∃ i, i < T.length ∧ look T i = none
def WF (T : Tab) : Prop := ∀ j e, look T j = some e → find T e.key = j
def cnt (T : Tab) : Nat := T.countP Option.isSome
def lay (T : Tab) (e : Ent) : Tab := T.set (find T e.key) (some e)

theorem mod_lt {n : Nat} (h : 0 < n) (x : Nat) : x % n < n := Nat.mod_lt _ h
/- Two numbers less than n apart that are one modulo n are one. -/
theorem mod_one {n x y : Nat} (h : x % n = y % n) (h1 : x ≤ y) (h2 : y < x + n) : x = y := by
  have e1 := Nat.div_add_mod x n
  have e2 := Nat.div_add_mod y n
  rcases Nat.lt_or_ge (x / n) (y / n) with h3 | h3
  · have h4 := Nat.mul_le_mul_left n h3
    rw [Nat.mul_succ] at h4
    omega
  · have h4 := Nat.mul_le_mul_left n h3
    omega
theorem look_lt {T : Tab} {j : Nat} {e : Ent} (h : look T j = some e) : j < T.length := by
  rcases Nat.lt_or_ge j T.length with h1 | h1
  · exact h1
  · simp [look, List.getD, List.getElem?_eq_none h1] at h
theorem look_set {T : Tab} {i j : Nat} {o : Option Ent} (hi : i < T.length) : look (T.set i o) j = if i = j then o else look T j := by
  simp only [look, List.getD, List.getElem?_set]
  by_cases h : i = j
  · subst h; simp [hi]
  · simp [h]
theorem look_set_same {T : Tab} {i : Nat} {o : Option Ent} (hi : i < T.length) : look (T.set i o) i = o := by rw [look_set hi, if_pos rfl]
theorem look_set_ne {T : Tab} {i j : Nat} {o : Option Ent} (h : i ≠ j) : look (T.set i o) j = look T j := by
  simp only [look, List.getD, List.getElem?_set, if_neg h]
theorem look_mem {T : Tab} {e : Ent} : some e ∈ T ↔ ∃ j, look T j = some e := by
  constructor
  · intro h
    obtain ⟨j, hj, he⟩ := List.getElem_of_mem h
    exact ⟨j, by simp [look, List.getD, hj, he]⟩
  · rintro ⟨j, h⟩
    have hj := look_lt h
    simp [look, List.getD, hj] at h
    exact h ▸ List.getElem_mem hj
/- Where the search ends. -/
theorem dist_lt {T : Tab} {s : ByteArray} (h : ∃ d, d < T.length ∧ stops T s ((hm T.length s + d) % T.length) = true) : dist T s < T.length := by
  have := List.findIdx_lt_length_of_exists (xs := List.range T.length) (p := fun d => stops T s ((hm T.length s + d) % T.length)) (by
    obtain ⟨d, h1, h2⟩ := h
    exact ⟨d, List.mem_range.2 h1, h2⟩)
  simpa [dist] using this
theorem dist_stops {T : Tab} {s : ByteArray} (h : dist T s < T.length) : stops T s (find T s) = true := by
  have h1 : (List.range T.length).findIdx (fun d => stops T s ((hm T.length s + d) % T.length)) < (List.range T.length).length := by simpa [dist] using h
  have := List.findIdx_getElem (w := h1)
  simpa [find, dist] using this
theorem dist_before {T : Tab} {s : ByteArray} {d : Nat} (h : d < dist T s) : stops T s ((hm T.length s + d) % T.length) = false := by
  have h1 : d < (List.range T.length).length := by
    have := List.findIdx_le_length (xs := List.range T.length) (p := fun d => stops T s ((hm T.length s + d) % T.length))
    exact Nat.lt_of_lt_of_le h this
  have := List.not_of_lt_findIdx (p := fun d => stops T s ((hm T.length s + d) % T.length)) (xs := List.range T.length) (i := d) h
  simpa using this
theorem dist_eq {T : Tab} {s : ByteArray} {d : Nat} (hd : d < T.length) (hs : stops T s ((hm T.length s + d) % T.length) = true) (hb : ∀ x, x < d → stops T s ((hm T.length s + x) % T.length) = false) : dist T s = d := by
  have h1 := dist_lt ⟨d, hd, hs⟩
  rcases Nat.lt_trichotomy (dist T s) d with h | h | h
  · have := hb _ h
    have h2 := dist_stops h1
    rw [find, this] at h2
    cases h2
  · exact h
  · have := dist_before h
    rw [hs] at this
    cases this
theorem find_eq {T : Tab} {s : ByteArray} {d : Nat} (hd : d < T.length) (hs : stops T s ((hm T.length s + d) % T.length) = true) (hb : ∀ x, x < d → stops T s ((hm T.length s + x) % T.length) = false) : find T s = (hm T.length s + d) % T.length := by
  rw [find, dist_eq hd hs hb]
/- Each place is so many behind a home. -/
theorem some_dist {n h j : Nat} (hj : j < n) : ∃ d, d < n ∧ (h + d) % n = j := by
  refine ⟨(j + n - h % n) % n, Nat.mod_lt _ (by omega), ?_⟩
  have h1 := Nat.mod_lt h (show 0 < n by omega)
  rw [Nat.add_mod_mod, ← Nat.mod_add_mod, show h % n + (j + n - h % n) = j + n by omega, Nat.add_mod_right, Nat.mod_eq_of_lt hj]
theorem stops_free {T : Tab} {s : ByteArray} {i : Nat} (h : look T i = none) : stops T s i = true := by simp [stops, h]
theorem dist_free {T : Tab} (h : free T) (s : ByteArray) : dist T s < T.length := by
  obtain ⟨i, hi, hl⟩ := h
  obtain ⟨d, hd, he⟩ := some_dist (h := hm T.length s) hi
  exact dist_lt ⟨d, hd, by rw [he]; exact stops_free hl⟩
theorem find_lt {T : Tab} (h : 0 < T.length) (s : ByteArray) : find T s < T.length := Nat.mod_lt _ h
theorem find_stops {T : Tab} (h : free T) (s : ByteArray) : stops T s (find T s) = true := dist_stops (dist_free h s)
theorem find_key {T : Tab} (h : free T) {s : ByteArray} {e : Ent} (he : look T (find T s) = some e) : e.key = s := by
  have := find_stops h s
  simpa [stops, he] using this
theorem stops_key {T : Tab} {s : ByteArray} {i : Nat} {e : Ent} (h : look T i = some e) : stops T s i = decide (e.key = s) := by
  simp only [stops, h]
theorem stops_set_ne {T : Tab} {s : ByteArray} {i j : Nat} {o : Option Ent} (h : i ≠ j) : stops (T.set i o) s j = stops T s j := by simp only [stops, look_set_ne h]
theorem wf_dist {T : Tab} (h : WF T) {j : Nat} {e : Ent} (he : look T j = some e) : dist T e.key < T.length := by
  have hj := look_lt he
  obtain ⟨d, hd, hp⟩ := some_dist (h := hm T.length e.key) hj
  exact dist_lt ⟨d, hd, by rw [hp, stops_key he]; simp⟩
/- An entry is laid. -/
theorem wf_lay {T : Tab} (hw : WF T) (hf : free T) (e : Ent) : WF (lay T e) := by
  intro j f hj
  have h0 : 0 < T.length := by obtain ⟨i, hi, _⟩ := hf; omega
  have hl : (lay T e).length = T.length := by simp [lay]
  have hs : find T e.key < T.length := find_lt h0 _
  by_cases hje : find T e.key = j
  · rw [lay, ← hje, look_set_same hs] at hj
    injection hj with hj
    subst hj
    rw [← hje]
    have hd := dist_free hf e.key
    have := find_eq (T := lay T e) (s := e.key) (d := dist T e.key) (by rw [hl]; exact hd) ?_ ?_
    · rw [this, hl]; rfl
    · rw [hl]
      show stops (lay T e) e.key (find T e.key) = true
      rw [lay, stops_key (look_set_same hs)]
      simp
    · intro x hx
      rw [hl]
      have h1 := dist_before hx
      rw [lay, stops_set_ne]
      · exact h1
      · intro h2
        rw [← h2, dist_stops hd] at h1
        cases h1
  · rw [lay, look_set_ne hje] at hj
    have hwj := hw j f hj
    have hd := wf_dist hw hj
    have := find_eq (T := lay T e) (s := f.key) (d := dist T f.key) (by rw [hl]; exact hd) ?_ ?_
    · rw [this, hl, ← hwj]; rfl
    · rw [hl]
      show stops (lay T e) f.key (find T f.key) = true
      rw [hwj, lay, stops_set_ne hje, stops_key hj]
      simp
    · intro x hx
      rw [hl]
      have h1 := dist_before hx
      by_cases hp : find T e.key = (hm T.length f.key + x) % T.length
      · rw [← hp, lay, stops_key (look_set_same hs)]
        by_cases hk : e.key = f.key
        · rw [hk, hwj] at hje
          exact absurd rfl hje
        · simp [hk]
      · rw [lay, stops_set_ne hp]
        exact h1
theorem lay_length (T : Tab) (e : Ent) : (lay T e).length = T.length := by simp [lay]
theorem look_one {T : Tab} (hw : WF T) {i j : Nat} {e f : Ent} (hi : look T i = some e) (hj : look T j = some f) (h : e.key = f.key) : i = j := by
  rw [← hw i e hi, ← hw j f hj, h]
/- What a key is told. -/
def ask (T : Tab) (s : ByteArray) : Option Ent := look T (find T s)
theorem ask_iff {T : Tab} (hw : WF T) (hf : free T) {s : ByteArray} {e : Ent} : ask T s = some e ↔ some e ∈ T ∧ e.key = s := by
  constructor
  · intro h
    exact ⟨look_mem.2 ⟨_, h⟩, find_key hf h⟩
  · rintro ⟨h1, rfl⟩
    obtain ⟨j, hj⟩ := look_mem.1 h1
    rw [ask, hw j e hj, hj]
theorem mem_lay {T : Tab} (hw : WF T) (hf : free T) {e f : Ent} : some f ∈ lay T e ↔ f = e ∨ (some f ∈ T ∧ f.key ≠ e.key) := by
  have h0 : 0 < T.length := by obtain ⟨i, hi, _⟩ := hf; omega
  have hs : find T e.key < T.length := find_lt h0 _
  rw [look_mem]
  constructor
  · rintro ⟨j, hj⟩
    by_cases hje : find T e.key = j
    · rw [lay, hje, look_set_same (hje ▸ hs)] at hj
      injection hj with hj
      exact .inl hj.symm
    · rw [lay, look_set_ne hje] at hj
      refine .inr ⟨look_mem.2 ⟨j, hj⟩, fun hk => hje ?_⟩
      rw [← hk]
      exact hw j f hj
  · rintro (rfl | ⟨h1, hk⟩)
    · exact ⟨_, look_set_same hs⟩
    · obtain ⟨j, hj⟩ := look_mem.1 h1
      refine ⟨j, ?_⟩
      rw [lay, look_set_ne]
      · exact hj
      · intro h2
        rw [← h2] at hj
        exact hk (find_key hf hj)
theorem ask_lay {T : Tab} {e : Ent} (hw : WF T) (hf : free T) (hf' : free (lay T e)) {s : ByteArray} : ask (lay T e) s = if s = e.key then some e else ask T s := by
  apply Option.ext
  intro f
  rw [ask_iff (wf_lay hw hf e) hf', mem_lay hw hf]
  by_cases hs : s = e.key
  · rw [if_pos hs]
    subst hs
    constructor
    · rintro ⟨rfl | ⟨_, h1⟩, h2⟩
      · rfl
      · exact absurd h2 h1
    · rintro h
      injection h with h
      exact ⟨.inl h.symm, by rw [h]⟩
  · rw [if_neg hs, ask_iff hw hf]
    constructor
    · rintro ⟨rfl | ⟨h1, _⟩, h2⟩
      · exact absurd h2.symm hs
      · exact ⟨h1, h2⟩
    · rintro ⟨h1, h2⟩
      exact ⟨.inr ⟨h1, fun h => hs (h2.symm.trans h)⟩, h2⟩
/- How many there are. -/
theorem cnt_set {T : Tab} {i : Nat} (hi : i < T.length) (o : Option Ent) : cnt (T.set i o) + (if (look T i).isSome then 1 else 0) = cnt T + (if o.isSome then 1 else 0) := by
  have h1 : look T i = T[i] := by simp [look, List.getD, hi]
  have h2 := List.countP_set (p := Option.isSome) (l := T) (a := o) hi
  have h3 : (if (T[i]).isSome = true then 1 else 0) ≤ T.countP Option.isSome := by
    split
    · rename_i h
      exact List.countP_pos_iff.2 ⟨_, List.getElem_mem hi, h⟩
    · omega
  rw [h1]
  unfold cnt
  omega
theorem cnt_le (T : Tab) : cnt T ≤ T.length := List.countP_le_length
theorem free_of_cnt {T : Tab} (h : cnt T < T.length) : free T := by
  apply Classical.byContradiction
  intro hn
  have : ∀ o ∈ T, o.isSome = true := by
    intro o ho
    obtain ⟨j, hj, rfl⟩ := List.getElem_of_mem ho
    apply Classical.byContradiction
    intro h1
    refine hn ⟨j, hj, ?_⟩
    simp [look, List.getD, hj]
    simpa using h1
  have := List.countP_eq_length.2 this
  unfold cnt at h
  omega
theorem cnt_new (n : Nat) : cnt (List.replicate n none) = 0 := by simp [cnt, List.countP_replicate]
theorem look_new (n i : Nat) : look (List.replicate n none) i = none := by
  simp only [look, List.getD, List.getElem?_replicate]
  split <;> rfl
theorem wf_new (n : Nat) : WF (List.replicate n none) := by
  intro j e h
  rw [look_new] at h
  cases h
theorem cnt_lay {T : Tab} (hf : free T) (e : Ent) : cnt (lay T e) = cnt T + (if (ask T e.key).isSome then 0 else 1) := by
  have h0 : 0 < T.length := by obtain ⟨i, hi, _⟩ := hf; omega
  have := cnt_set (find_lt h0 e.key) (some e)
  simp only [Option.isSome_some, if_true] at this
  unfold ask lay
  split at this <;> rename_i h
  · simp only [h, if_true]; omega
  · rw [if_neg h]; omega
end Go.Proofs.YtabclecfamkanaaDoor.Key

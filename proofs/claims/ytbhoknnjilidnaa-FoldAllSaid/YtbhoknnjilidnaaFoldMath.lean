/- Keys that rise, in plain lists: what is sorted and compacted, what is added one by one, pages. -/
import Derived.Lib.SlicesCompact
namespace Go.Proofs.Ytbhoknnjilidnaa.Fold
set_option linter.unusedVariables false
set_option linter.unusedSimpArgs false
abbrev K := List UInt8
def Ris (l : List K) : Prop := l.Pairwise (· < ·)
theorem lt_irr (x : K) : ¬ x < x := List.lt_irrefl x
theorem lt_tr {x y z : K} (h : x < y) (k : y < z) : x < z := List.lt_trans h k
theorem le_lt {x y z : K} (h : x ≤ y) (k : y < z) : x < z := by
  by_cases e : x = y
  · rw [e]; exact k
  · exact lt_tr (Std.lt_of_le_of_ne h e) k
theorem ris_one : ∀ {a b : List K}, Ris a → Ris b → (∀ x, x ∈ a ↔ x ∈ b) → a = b
  | [], [], _, _, _ => rfl
  | [], y :: b, _, _, h => by have := (h y).2 (by simp); simp at this
  | x :: a, [], _, _, h => by have := (h x).1 (by simp); simp at this
  | x :: a, y :: b, ha, hb, h => by
    have ha' := List.pairwise_cons.1 ha
    have hb' := List.pairwise_cons.1 hb
    have hxy : x = y := by
      rcases List.mem_cons.1 ((h x).1 (by simp)) with e | e
      · exact e
      · rcases List.mem_cons.1 ((h y).2 (by simp)) with e' | e'
        · exact e'.symm
        · exact absurd (lt_tr (hb'.1 x e) (ha'.1 y e')) (lt_irr _)
    subst hxy
    rw [ris_one ha'.2 hb'.2 (fun z => ⟨fun hz => ?_, fun hz => ?_⟩)]
    · rcases List.mem_cons.1 ((h z).1 (List.mem_cons_of_mem _ hz)) with e | e
      · subst e; exact absurd (ha'.1 _ hz) (lt_irr _)
      · exact e
    · rcases List.mem_cons.1 ((h z).2 (List.mem_cons_of_mem _ hz)) with e | e
      · subst e; exact absurd (hb'.1 _ hz) (lt_irr _)
      · exact e
/- Compacted, what rises or stays rises. -/
theorem compact_upto {d : Array K} : ∀ {m : Nat}, m ≤ d.size → (∀ i j, i ≤ j → j < m → d[i]! ≤ d[j]!) →
    Ris (Lib.compactUpTo d m) ∧ ∀ x, x ∈ Lib.compactUpTo d m ↔ ∃ j, j < m ∧ d[j]! = x
  | 0, _, _ => ⟨by simp [Lib.compactUpTo, Ris], fun x => by simp [Lib.compactUpTo]⟩
  | m + 1, hm, hle => by
    obtain ⟨ih1, ih2⟩ := compact_upto (m := m) (by omega) (fun i j hij hj => hle i j hij (by omega))
    rw [Lib.compactUpTo_succ]
    by_cases hk : Lib.keeps d m = true
    · rw [if_pos hk]
      refine ⟨List.pairwise_append.2 ⟨ih1, by simp, fun x hx y hy => ?_⟩, fun x => ?_⟩
      · rw [List.mem_singleton.1 hy]
        obtain ⟨j, hj, rfl⟩ := (ih2 x).1 hx
        have hne : d[m]! ≠ d[m - 1]! := by
          have := of_decide_eq_true hk
          rcases this with h | h
          · omega
          · exact h
        have h1 := hle j (m - 1) (by omega) (by omega)
        have h2 := hle (m - 1) m (by omega) (by omega)
        exact le_lt h1 (Std.lt_of_le_of_ne h2 (Ne.symm hne))
      · rw [List.mem_append, ih2, List.mem_singleton]
        constructor
        · rintro (⟨j, hj, h⟩ | h)
          · exact ⟨j, by omega, h⟩
          · exact ⟨m, by omega, h.symm⟩
        · rintro ⟨j, hj, h⟩
          rcases Nat.lt_or_ge j m with h1 | h1
          · exact .inl ⟨j, h1, h⟩
          · have : j = m := by omega
            subst this
            exact .inr h.symm
    · rw [if_neg hk, List.append_nil]
      refine ⟨ih1, fun x => ?_⟩
      rw [ih2]
      have hk' : ¬ (m = 0 ∨ d[m]! ≠ d[m - 1]!) := fun h => hk (decide_eq_true h)
      have h0 : m ≠ 0 := fun h => hk' (.inl h)
      have he : d[m]! = d[m - 1]! := Classical.byContradiction fun h => hk' (.inr h)
      constructor
      · rintro ⟨j, hj, h⟩
        exact ⟨j, by omega, h⟩
      · rintro ⟨j, hj, h⟩
        rcases Nat.lt_or_ge j m with h1 | h1
        · exact ⟨j, h1, h⟩
        · have : j = m := by omega
          subst this
          exact ⟨j - 1, by omega, by rw [← he]; exact h⟩
theorem compact_ris {zs : List K} (h : zs.Pairwise (· ≤ ·)) : Ris (Lib.compact zs) ∧ ∀ x, x ∈ Lib.compact zs ↔ x ∈ zs := by
  have hg : ∀ i, (h : i < zs.length) → zs.toArray[i]! = zs[i] := fun i hi => by simp [hi]
  have h1 := compact_upto (d := zs.toArray) (m := zs.length) (by simp) (fun i j hij hj => by
    rw [hg i (by omega), hg j hj]
    rcases Nat.lt_or_ge i j with h1 | h1
    · exact List.pairwise_iff_getElem.1 h i j (by omega) hj h1
    · have : i = j := by omega
      subst this
      exact Std.le_refl _)
  refine ⟨h1.1, fun x => (h1.2 x).trans ?_⟩
  constructor
  · rintro ⟨j, hj, rfl⟩
    rw [hg j hj]
    exact List.getElem_mem hj
  · intro hx
    obtain ⟨j, hj, rfl⟩ := List.mem_iff_getElem.1 hx
    exact ⟨j, hj, hg j hj⟩
/- All of a list, rising, each once. -/
def sorted (l : List K) : List K := Lib.compact (l.mergeSort fun x y => decide (x ≤ y))
theorem sorted_ris (l : List K) : Ris (sorted l) ∧ ∀ x, x ∈ sorted l ↔ x ∈ l := by
  have hp : (l.mergeSort fun x y => decide (x ≤ y)).Pairwise (· ≤ ·) := by
    refine (List.pairwise_mergeSort (le := fun x y : K => decide (x ≤ y)) (fun a b c h1 h2 => ?_) (fun a b => ?_) l).imp (fun {a b} h => of_decide_eq_true h)
    · exact decide_eq_true (Std.le_trans (of_decide_eq_true h1) (of_decide_eq_true h2))
    · simp only [Bool.or_eq_true, decide_eq_true_eq]
      exact Std.le_total
  have h1 := compact_ris hp
  exact ⟨h1.1, fun x => (h1.2 x).trans (List.mem_mergeSort)⟩
theorem sorted_length (l : List K) : (sorted l).length ≤ l.length := by
  have h1 : (Lib.compact (l.mergeSort fun x y => decide (x ≤ y))).length ≤ (l.mergeSort fun x y => decide (x ≤ y)).length := by
    unfold Lib.compact Lib.compactUpTo
    rw [List.length_map]
    refine Nat.le_trans (List.length_filter_le _ _) ?_
    rw [List.length_range]
    exact Nat.le_refl _
  rw [List.length_mergeSort] at h1
  exact h1
/- A key comes where it stands, if it isn't there. -/
def place : List K → K → Nat
  | [], _ => 0
  | x :: l, s => if x < s then place l s + 1 else 0
theorem place_cons (x : K) (l : List K) (s : K) : place (x :: l) s = if x < s then place l s + 1 else 0 := rfl
theorem place_le : ∀ (l : List K) (s : K), place l s ≤ l.length
  | [], _ => Nat.le_refl _
  | x :: l, s => by
    unfold place
    split
    · have := place_le l s; simp; omega
    · exact Nat.zero_le _
theorem place_lt : ∀ (l : List K) (s : K) (i : Nat) (h : i < place l s) (h2 : i < l.length), l[i] < s
  | [], _, i, h, h2 => by simp at h2
  | x :: l, s, i, h, h2 => by
    unfold place at h
    split at h
    · next hx =>
      rcases i with _ | i
      · exact hx
      · exact place_lt l s i (by omega) (by simpa using h2)
    · omega
theorem place_at : ∀ (l : List K) (s : K) (h : place l s < l.length), ¬ l[place l s] < s
  | [], _, h => by simp [place] at h
  | x :: l, s, h => by
    by_cases hx : x < s
    · have e : place (x :: l) s = place l s + 1 := by rw [place_cons, if_pos hx]
      have h2 : place l s < l.length := by rw [e] at h; simpa using h
      have h3 := place_at l s h2
      simp only [e, List.getElem_cons_succ]
      exact h3
    · have e : place (x :: l) s = 0 := by rw [place_cons, if_neg hx]
      simp only [e, List.getElem_cons_zero]
      exact hx
theorem place_of {l : List K} {s : K} {at_ : Nat} (h1 : ∀ i (h : i < l.length), i < at_ → l[i] < s) (h2 : at_ ≤ l.length) (h3 : ∀ h : at_ < l.length, ¬ l[at_] < s) : place l s = at_ := by
  have ha := place_le l s
  rcases Nat.lt_trichotomy (place l s) at_ with h | h | h
  · exact absurd (h1 (place l s) (by omega) h) (place_at l s (by omega))
  · exact h
  · exact absurd (place_lt l s at_ h (by omega)) (h3 (by omega))
def add (l : List K) (s : K) : List K := if s ∈ l then l else l.take (place l s) ++ s :: l.drop (place l s)
theorem add_ris {l : List K} {s : K} (h : Ris l) : Ris (add l s) ∧ ∀ x, x ∈ add l s ↔ x ∈ l ∨ x = s := by
  unfold add
  by_cases hs : s ∈ l
  · rw [if_pos hs]
    refine ⟨h, fun x => ⟨.inl, fun h => h.elim id (fun e => e ▸ hs)⟩⟩
  · rw [if_neg hs]
    have hsp := List.take_append_drop (place l s) l
    have hp : (l.take (place l s) ++ l.drop (place l s)).Pairwise (· < ·) := by rw [hsp]; exact h
    obtain ⟨p1, p2, p3⟩ := List.pairwise_append.1 hp
    have t1 : ∀ x ∈ l.take (place l s), x < s := fun x hx => by
      obtain ⟨i, hi, rfl⟩ := List.mem_iff_getElem.1 hx
      rw [List.length_take] at hi
      rw [List.getElem_take]
      exact place_lt l s i (by omega) (by omega)
    have t2 : ∀ x ∈ l.drop (place l s), s < x := fun x hx => by
      obtain ⟨i, hi, rfl⟩ := List.mem_iff_getElem.1 hx
      rw [List.length_drop] at hi
      rw [List.getElem_drop]
      have h0 : s < l[place l s]'(by omega) := by
        have h1 := place_at l s (by omega)
        have h2 : s ≤ l[place l s]'(by omega) := Std.not_lt.1 h1
        refine Std.lt_of_le_of_ne h2 (fun e => hs ?_)
        rw [e]; exact List.getElem_mem _
      rcases Nat.eq_zero_or_pos i with e | e
      · subst e; exact h0
      · exact lt_tr h0 (List.pairwise_iff_getElem.1 h (place l s) (place l s + i) (by omega) (by omega) (by omega))
    refine ⟨List.pairwise_append.2 ⟨p1, List.pairwise_cons.2 ⟨t2, p2⟩, fun x hx y hy => ?_⟩, fun x => ?_⟩
    · rcases List.mem_cons.1 hy with rfl | hy
      · exact t1 x hx
      · exact p3 x hx y hy
    · have hm : x ∈ l ↔ x ∈ l.take (place l s) ∨ x ∈ l.drop (place l s) := by rw [← List.mem_append, hsp]
      rw [hm, List.mem_append, List.mem_cons]
      constructor
      · rintro (h | h | h)
        · exact .inl (.inl h)
        · exact .inr h
        · exact .inl (.inr h)
      · rintro ((h | h) | h)
        · exact .inl h
        · exact .inr (.inr h)
        · exact .inr (.inl h)
theorem add_length (l : List K) (s : K) : (add l s).length ≤ l.length + 1 := by
  unfold add
  split
  · omega
  · rw [List.length_append, List.length_cons, List.length_take, List.length_drop]; omega
theorem mem_place {l : List K} {s : K} (h : Ris l) : s ∈ l ↔ ∃ h : place l s < l.length, l[place l s] = s := by
  constructor
  · intro hs
    obtain ⟨i, hi, e⟩ := List.mem_iff_getElem.1 hs
    have : place l s = i := place_of (fun j hj hji => by rw [← e]; exact List.pairwise_iff_getElem.1 h j i hj hi hji) (by omega) (fun _ => by rw [e]; exact lt_irr s)
    subst this
    exact ⟨hi, e⟩
  · rintro ⟨h1, h2⟩
    rw [← h2]; exact List.getElem_mem h1
/- The keys of a page: those behind one, or all. -/
def behind (after : K) (first : Bool) (x : K) : Bool := first || decide (after < x)
def rest (keys : List K) (after : K) (first : Bool) : List K := sorted (keys.filter (behind after first))
theorem rest_ris (keys : List K) (after : K) (first : Bool) : Ris (rest keys after first) ∧ ∀ x, x ∈ rest keys after first ↔ x ∈ keys ∧ behind after first x = true := by
  have h := sorted_ris (keys.filter (behind after first))
  exact ⟨h.1, fun x => (h.2 x).trans List.mem_filter⟩
theorem rest_length (keys : List K) (after : K) (first : Bool) : (rest keys after first).length ≤ keys.length :=
  Nat.le_trans (sorted_length _) (List.length_filter_le _ _)
def adds (l : List K) : List K → List K
  | [] => l
  | s :: r => adds (add l s) r
theorem adds_ris : ∀ (r : List K) {l : List K}, Ris l → Ris (adds l r) ∧ ∀ x, x ∈ adds l r ↔ x ∈ l ∨ x ∈ r
  | [], l, h => ⟨h, fun x => by simp [adds]⟩
  | s :: r, l, h => by
    have h1 := add_ris (s := s) h
    have h2 := adds_ris r h1.1
    refine ⟨h2.1, fun x => (h2.2 x).trans ?_⟩
    rw [h1.2, List.mem_cons, or_assoc]
theorem adds_snoc : ∀ (r : List K) (l : List K) (s : K), adds l (r ++ [s]) = add (adds l r) s
  | [], _, _ => rfl
  | x :: r, l, s => adds_snoc r (add l x) s
theorem adds_rest (keys : List K) (after : K) (first : Bool) : adds [] (keys.filter (behind after first)) = rest keys after first := by
  have h1 := adds_ris (keys.filter (behind after first)) (l := []) (by simp [Ris])
  have h2 := sorted_ris (keys.filter (behind after first))
  exact ris_one h1.1 h2.1 (fun x => by rw [h1.2]; unfold rest; rw [h2.2]; simp)
theorem adds_length : ∀ (r l : List K), (adds l r).length ≤ l.length + r.length
  | [], l => by simp [adds]
  | s :: r, l => by have h1 := adds_length r (add l s); have h2 := add_length l s; simp only [adds, List.length_cons]; omega
/- Behind the last key of a page lies what the page left. -/
theorem rest_next {keys : List K} {after : K} {first : Bool} {m : Nat} (hm : 0 < m) (hl : m < (rest keys after first).length) :
    rest keys ((rest keys after first)[m - 1]'(by omega)) false = (rest keys after first).drop m := by
  have h1 := rest_ris keys after first
  have h2 := rest_ris keys ((rest keys after first)[m - 1]'(by omega)) false
  obtain ⟨R, hR⟩ : ∃ R, R = rest keys after first := ⟨_, rfl⟩
  have hb : ∀ x, x ∈ R → x ∈ keys ∧ behind after first x = true := fun x hx => (h1.2 x).1 (by rw [← hR]; exact hx)
  refine ris_one h2.1 (h1.1.sublist (List.drop_sublist _ _)) (fun x => ?_)
  rw [h2.2]
  have hd : behind ((rest keys after first)[m - 1]'(by omega)) false x = true ↔ (rest keys after first)[m - 1]'(by omega) < x := by simp [behind]
  rw [hd]
  constructor
  · rintro ⟨hk, hlt⟩
    have hx : x ∈ rest keys after first := (h1.2 x).2 ⟨hk, by
      unfold behind
      rcases first with _ | _
      · have h3 := (h1.2 _).1 (List.getElem_mem (l := rest keys after false) (n := m - 1) (by omega))
        have h4 := h3.2
        simp only [behind, Bool.false_or, decide_eq_true_eq] at h4 ⊢
        exact lt_tr h4 hlt
      · rfl⟩
    obtain ⟨i, hi, e⟩ := List.mem_iff_getElem.1 hx
    have him : m ≤ i := by
      rcases Nat.lt_or_ge i m with h3 | h3
      · exfalso
        rcases Nat.lt_or_ge i (m - 1) with h4 | h4
        · have := List.pairwise_iff_getElem.1 h1.1 i (m - 1) hi (by omega) h4
          rw [e] at this
          exact lt_irr _ (lt_tr this hlt)
        · have : i = m - 1 := by omega
          subst this
          rw [e] at hlt
          exact lt_irr _ hlt
      · exact h3
    exact List.mem_iff_getElem.2 ⟨i - m, by rw [List.length_drop]; omega, by rw [List.getElem_drop]; simp only [show m + (i - m) = i by omega]; exact e⟩
  · intro hx
    obtain ⟨i, hi, e⟩ := List.mem_iff_getElem.1 hx
    rw [List.length_drop] at hi
    rw [List.getElem_drop] at e
    refine ⟨((h1.2 x).1 (by rw [← e]; exact List.getElem_mem _)).1, ?_⟩
    rw [← e]
    exact List.pairwise_iff_getElem.1 h1.1 (m - 1) (m + i) (by omega) (by omega) (by omega)
end Go.Proofs.Ytbhoknnjilidnaa.Fold

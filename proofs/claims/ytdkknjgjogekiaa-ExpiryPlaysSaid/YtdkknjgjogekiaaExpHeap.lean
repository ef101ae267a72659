/- Heaps as plain lists: an item that moves up, an item that moves down; the least one is the first one. -/
import Derived.Test.YtdkknjgjogekiaaExpMath
namespace Go.Proofs.Ytdkknjgjogekiaa.Exp
set_option linter.unusedVariables false
def nil : It := ⟨0, ⟨#[]⟩⟩
def look (l : List It) (i : Nat) : It := l.getD i nil
theorem look_get {l : List It} {i : Nat} (h : i < l.length) : look l i = l[i] := by simp [look, List.getD, h]
theorem look_set {l : List It} {i j : Nat} {x : It} (h : i < l.length) : look (l.set i x) j = if j = i then x else look l j := by
  simp only [look, List.getD, List.getElem?_set]
  by_cases hj : i = j
  · subst hj; simp [h]
  · rw [if_neg hj, if_neg (Ne.symm hj)]
def swap (l : List It) (i j : Nat) : List It := (l.set i (look l j)).set j (look l i)
theorem swap_length (l : List It) (i j : Nat) : (swap l i j).length = l.length := by simp [swap]
theorem look_swap {l : List It} {i j k : Nat} (hi : i < l.length) (hj : j < l.length) : look (swap l i j) k = if k = j then look l i else if k = i then look l j else look l k := by
  unfold swap
  rw [look_set (by rw [List.length_set]; exact hj), look_set hi]
theorem swap_perm {l : List It} {i j : Nat} (hi : i < l.length) (hj : j < l.length) : (swap l i j).Perm l := by
  have h := Array.swap_perm (xs := l.toArray) (i := i) (j := j) (by simpa using hi) (by simpa using hj)
  have h2 := h.toList
  have e : (l.toArray.swap i j (by simpa using hi) (by simpa using hj)).toList = swap l i j := by
    unfold swap
    rw [look_get hi, look_get hj]
    simp [Array.swap]
  rw [e] at h2
  exact h2
def par (i : Nat) : Nat := (i - 1) / 2
theorem par_lt {i : Nat} (h : 0 < i) : par i < i := by unfold par; omega
/- Each item is no less than the one above it. -/
def Hp (l : List It) : Prop := ∀ i, 0 < i → i < l.length → le (look l (par i)) (look l i)
theorem hp_root {l : List It} (h : Hp l) : ∀ i, i < l.length → le (look l 0) (look l i) := by
  intro i
  induction i using Nat.strongRecOn with
  | _ i ih =>
    intro hi
    by_cases h0 : i = 0
    · subst h0; exact le_refl _
    · have hp := par_lt (i := i) (by omega)
      exact le_trans (ih (par i) hp (by omega)) (h i (by omega) hi)
theorem hp_nil : Hp [] := fun i _ h => by simp at h
/- But for item i, and what lies below it fits to what lies above it. -/
structure UpAt (l : List It) (i : Nat) : Prop where
  rest : ∀ j, 0 < j → j < l.length → j ≠ i → le (look l (par j)) (look l j)
  past : 0 < i → ∀ j, 0 < j → j < l.length → par j = i → le (look l (par i)) (look l j)
theorem UpAt.done {l : List It} {i : Nat} (h : UpAt l i) (hi : i = 0 ∨ le (look l (par i)) (look l i)) : Hp l := fun j h0 hj => by
  by_cases hji : j = i
  · subst hji
    rcases hi with hi | hi
    · omega
    · exact hi
  · exact h.rest j h0 hj hji
theorem UpAt.swap {l : List It} {i : Nat} (h : UpAt l i) (h0 : 0 < i) (hi : i < l.length) (hlt : lt (look l i) (look l (par i)) = true) : UpAt (swap l i (par i)) (par i) := by
  have hp := par_lt h0
  have hpl : par i < l.length := by omega
  have hle := lt_le hlt
  refine ⟨fun j h1 h2 h3 => ?_, fun h1 j h2 h3 h4 => ?_⟩
  · rw [swap_length] at h2
    rw [look_swap hi hpl, look_swap hi hpl]
    have hjp := par_lt h1
    by_cases hji : j = i
    · subst hji
      rw [if_pos rfl, if_neg (by omega), if_pos rfl]
      exact hle
    · rw [if_neg h3, if_neg hji]
      by_cases hpp : par j = par i
      · rw [if_pos hpp]
        have := h.rest j h1 h2 hji
        rw [hpp] at this
        exact le_trans hle this
      · rw [if_neg hpp]
        by_cases hpi : par j = i
        · rw [if_pos hpi]
          exact h.past h0 j h1 h2 hpi
        · rw [if_neg hpi]
          exact h.rest j h1 h2 hji
  · rw [swap_length] at h3
    rw [look_swap hi hpl, look_swap hi hpl]
    have hpp := par_lt h1
    have hj : j ≠ par i := by intro e; have := par_lt h2; omega
    rw [if_neg (by omega : par (par i) ≠ par i), if_neg (by omega : par (par i) ≠ i), if_neg hj]
    have hup := h.rest (par i) h1 hpl (by omega)
    by_cases hji : j = i
    · rw [if_pos hji]
      exact hup
    · rw [if_neg hji]
      have := h.rest j h2 h3 hji
      rw [h4] at this
      exact le_trans hup this
/- A new last item. -/
theorem UpAt.last {l : List It} (h : Hp l) (x : It) : UpAt (l ++ [x]) l.length := by
  have hl : ∀ j, j < l.length → look (l ++ [x]) j = look l j := fun j hj => by simp [look, List.getD, List.getElem?_append_left hj]
  refine ⟨fun j h0 h1 h2 => ?_, fun h0 j h1 h2 h3 => ?_⟩
  · simp at h1
    have hp := par_lt h0
    rw [hl j (by omega), hl (par j) (by omega)]
    exact h j h0 (by omega)
  · simp at h2
    have hp := par_lt h1
    omega
def up : Nat → List It → Nat → List It
  | 0, l, i => l
  | f + 1, l, i => if 0 < i ∧ lt (look l i) (look l (par i)) = true then up f (swap l i (par i)) (par i) else l
theorem up_all : ∀ {f : Nat} {l : List It} {i : Nat}, UpAt l i → i < l.length → i < f → Hp (up f l i) ∧ (up f l i).Perm l
  | 0, l, i, _, _, h => by omega
  | f + 1, l, i, h, hi, hf => by
    unfold up
    by_cases hc : 0 < i ∧ lt (look l i) (look l (par i)) = true
    · rw [if_pos hc]
      have hp := par_lt hc.1
      obtain ⟨k1, k2⟩ := up_all (f := f) (h.swap hc.1 hi hc.2) (by rw [swap_length]; omega) (by omega)
      exact ⟨k1, k2.trans (swap_perm hi (by omega))⟩
    · rw [if_neg hc]
      refine ⟨h.done ?_, List.Perm.refl _⟩
      by_cases h0 : i = 0
      · exact .inl h0
      · refine .inr ?_
        unfold le
        cases hx : lt (look l i) (look l (par i)) with
        | false => rfl
        | true => exact absurd ⟨by omega, hx⟩ hc
/- But for what lies right below item i, and that fits to what lies above it. -/
structure DownAt (l : List It) (i : Nat) : Prop where
  rest : ∀ j, 0 < j → j < l.length → par j ≠ i → le (look l (par j)) (look l j)
  past : 0 < i → ∀ j, 0 < j → j < l.length → par j = i → le (look l (par i)) (look l j)
theorem DownAt.done {l : List It} {i : Nat} (h : DownAt l i) (hc : ∀ j, 0 < j → j < l.length → par j = i → le (look l i) (look l j)) : Hp l := fun j h0 hj => by
  by_cases hp : par j = i
  · rw [hp]; exact hc j h0 hj hp
  · exact h.rest j h0 hj hp
theorem par_two {i j : Nat} (h0 : 0 < j) (h : par j = i) : j = 2 * i + 1 ∨ j = 2 * i + 2 := by unfold par at h; omega
theorem DownAt.swap {l : List It} {i c : Nat} (h : DownAt l i) (h0 : 0 < c) (hc : c < l.length) (hp : par c = i) (hlt : lt (look l c) (look l i) = true) (hmin : ∀ j, 0 < j → j < l.length → par j = i → le (look l c) (look l j)) : DownAt (swap l i c) c := by
  have hic : i < c := by have := par_lt h0; omega
  have hi : i < l.length := by omega
  have hle := lt_le hlt
  refine ⟨fun j h1 h2 h3 => ?_, fun h1 j h2 h3 h4 => ?_⟩
  · rw [swap_length] at h2
    rw [look_swap hi hc, look_swap hi hc]
    have hjp := par_lt h1
    by_cases hjc : j = c
    · subst hjc
      rw [if_pos rfl, if_neg (by omega), if_pos hp]
      exact hle
    · rw [if_neg hjc, if_neg h3]
      by_cases hji : j = i
      · subst hji
        rw [if_pos rfl, if_neg (by omega)]
        exact h.past h1 c h0 hc hp
      · rw [if_neg hji]
        by_cases hpi : par j = i
        · rw [if_pos hpi]
          exact hmin j h1 h2 hpi
        · rw [if_neg hpi]
          exact h.rest j h1 h2 hpi
  · rw [swap_length] at h3
    rw [look_swap hi hc, look_swap hi hc]
    have hjc : j ≠ c := by intro e; have := par_lt h2; omega
    have hji : j ≠ i := by intro e; have := par_lt h2; omega
    rw [hp, if_neg (by omega), if_pos rfl, if_neg hjc, if_neg hji]
    have := h.rest j h2 h3 (by omega)
    rw [h4] at this
    exact this
def least (l : List It) (i : Nat) : Nat := if 2 * i + 2 < l.length ∧ lt (look l (2 * i + 2)) (look l (2 * i + 1)) = true then 2 * i + 2 else 2 * i + 1
theorem least_min {l : List It} {i : Nat} (h : 2 * i + 1 < l.length) : 0 < least l i ∧ least l i < l.length ∧ par (least l i) = i ∧ ∀ j, 0 < j → j < l.length → par j = i → le (look l (least l i)) (look l j) := by
  unfold least
  split
  · rename_i hc
    refine ⟨by omega, hc.1, by unfold par; omega, fun j h0 hj hp => ?_⟩
    rcases par_two h0 hp with rfl | rfl
    · exact lt_le hc.2
    · exact le_refl _
  · rename_i hc
    refine ⟨by omega, h, by unfold par; omega, fun j h0 hj hp => ?_⟩
    rcases par_two h0 hp with rfl | rfl
    · exact le_refl _
    · unfold le
      cases hx : lt (look l (2 * i + 2)) (look l (2 * i + 1)) with
      | false => rfl
      | true => exact absurd ⟨hj, hx⟩ hc
def down : Nat → List It → Nat → List It
  | 0, l, i => l
  | f + 1, l, i => if 2 * i + 1 < l.length then (if lt (look l (least l i)) (look l i) = true then down f (swap l i (least l i)) (least l i) else l) else l
theorem down_all : ∀ {f : Nat} {l : List It} {i : Nat}, DownAt l i → l.length < f + i + 1 → Hp (down f l i) ∧ (down f l i).Perm l
  | 0, l, i, h, hf => ⟨h.done (fun j h0 hj hp => by have := par_lt h0; omega), List.Perm.refl _⟩
  | f + 1, l, i, h, hf => by
    unfold down
    by_cases hc : 2 * i + 1 < l.length
    · rw [if_pos hc]
      obtain ⟨m1, m2, m3, m4⟩ := least_min hc
      have hic : i < least l i := by have := par_lt m1; omega
      by_cases hl : lt (look l (least l i)) (look l i) = true
      · rw [if_pos hl]
        obtain ⟨k1, k2⟩ := down_all (f := f) (h.swap m1 m2 m3 hl m4) (by rw [swap_length]; omega)
        exact ⟨k1, k2.trans (swap_perm (by omega) m2)⟩
      · rw [if_neg hl]
        refine ⟨h.done (fun j h0 hj hp => ?_), List.Perm.refl _⟩
        have h1 : le (look l i) (look l (least l i)) := by
          unfold le
          cases hx : lt (look l (least l i)) (look l i) with
          | false => rfl
          | true => exact absurd hx hl
        exact le_trans h1 (m4 j h0 hj hp)
    · rw [if_neg hc]
      refine ⟨h.done (fun j h0 hj hp => ?_), List.Perm.refl _⟩
      rcases par_two h0 hp with rfl | rfl <;> omega
/- The last item takes the first one's place. -/
theorem DownAt.first {l : List It} (h : Hp l) (x : It) : DownAt (l.set 0 x) 0 := by
  refine ⟨fun j h0 hj hp => ?_, fun h0 => by omega⟩
  rw [List.length_set] at hj
  have hl : 0 < l.length := by omega
  rw [look_set hl, look_set hl, if_neg hp, if_neg (by omega)]
  exact h j h0 hj
theorem hp_take {l : List It} (h : Hp l) (n : Nat) : Hp (l.take n) := by
  intro j h0 hj
  rw [List.length_take] at hj
  have hp := par_lt h0
  have e : ∀ k, k < n → look (l.take n) k = look l k := fun k hk => by simp [look, List.getD, hk]
  rw [e j (by omega), e (par j) (by omega)]
  exact h j h0 (by omega)
/- The least one: what a heap has first is what a rising list of the same items has first. -/
theorem least_one {x y : It} {h m : List It} (hh : Hp (x :: h)) (hm : Ris (y :: m)) (hp : (x :: h).Perm (y :: m)) : x = y := by
  have h1 : le x y := by
    have hy : y ∈ x :: h := hp.symm.subset (List.mem_cons_self ..)
    obtain ⟨i, hi, he⟩ := List.getElem_of_mem hy
    have := hp_root hh i hi
    rw [look_get hi, he] at this
    exact this
  have h2 : le y x := by
    have hx : x ∈ y :: m := hp.subset (List.mem_cons_self ..)
    rcases List.mem_cons.1 hx with e | e
    · rw [e]; exact le_refl _
    · exact (List.pairwise_cons.1 hm).1 x e
  exact le_antisymm h1 h2
end Go.Proofs.Ytdkknjgjogekiaa.Exp

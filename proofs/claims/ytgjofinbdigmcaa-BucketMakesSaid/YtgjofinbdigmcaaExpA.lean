/- In one text: Items by times and keys, rising lists of them, and heaps, as plain lists: an item put into a rising list, a heap's item that moves up, or down, and that what a heap gives is what a rising list gives. Heaps as plain lists: an item that moves up, an item that moves down; the least one is the first one. Rows of items in memory, the program's heap, and how its methods are reached through the library's interface. -/
import Derived.Test.YtgjofinbdigmcaaProg
import Derived.WalkKit
import Derived.Test.YtgjofinbdigmcaaBlk
import Derived.Test.YtgjofinbdigmcaaLate
import Derived.Deep.QuietTactic
import Derived.BigQuiet
import Derived.Deep.MidRow
import Derived.Lib.Hide
namespace Go.Proofs.Ytgjofinbdigmcaa.Exp
set_option linter.unusedVariables false
structure It where
  time : Nat
  key : ByteArray
deriving DecidableEq
/- Texts by their bytes. -/
theorem bl_irrefl : ∀ a : List UInt8, Op.bytesLess a a = false
  | [] => rfl
  | x :: a => by rw [Op.bytesLess, bl_irrefl a]; simp
theorem bl_cons (x y : UInt8) (a b : List UInt8) : Op.bytesLess (x :: a) (y :: b) = (decide (x < y) || (x == y && Op.bytesLess a b)) := by rw [Op.bytesLess]
theorem bl_total : ∀ a b : List UInt8, Op.bytesLess a b = false → Op.bytesLess b a = false → a = b
  | [], [], _, _ => rfl
  | [], _ :: _, h, _ => by rw [Op.bytesLess] at h; cases h
  | _ :: _, [], _, h => by rw [Op.bytesLess] at h; cases h
  | x :: a, y :: b, h1, h2 => by
    rw [bl_cons] at h1 h2
    simp only [Bool.or_eq_false_iff, decide_eq_false_iff_not, UInt8.lt_iff_toNat_lt, Bool.and_eq_false_iff, beq_eq_false_iff_ne] at h1 h2
    have he : x = y := UInt8.toNat_inj.1 (by omega)
    subst he
    rw [bl_total a b (h1.2.resolve_left (fun h => h rfl)) (h2.2.resolve_left (fun h => h rfl))]
theorem bl_trans : ∀ a b c : List UInt8, Op.bytesLess a b = true → Op.bytesLess b c = true → Op.bytesLess a c = true
  | _, [], _, h, _ => by rw [Op.bytesLess] at h; cases h
  | _, _ :: _, [], _, h => by rw [Op.bytesLess] at h; cases h
  | [], _ :: _, _ :: _, _, _ => by rw [Op.bytesLess]
  | x :: a, y :: b, z :: c, h1, h2 => by
    rw [bl_cons] at h1 h2 ⊢
    simp only [Bool.or_eq_true, decide_eq_true_eq, UInt8.lt_iff_toNat_lt, Bool.and_eq_true, beq_iff_eq] at h1 h2 ⊢
    rcases h1 with h1 | ⟨rfl, h1⟩
    · rcases h2 with h2 | ⟨rfl, h2⟩
      · exact .inl (by omega)
      · exact .inl h1
    · rcases h2 with h2 | ⟨rfl, h2⟩
      · exact .inl h2
      · exact .inr ⟨rfl, bl_trans a b c h1 h2⟩
/- Is an item ahead of another one? -/
def lt (a b : It) : Bool := decide (a.time < b.time) || (a.time == b.time && Op.bytesLess a.key.toList b.key.toList)
def le (a b : It) : Prop := lt b a = false
instance (a b : It) : Decidable (le a b) := by unfold le; infer_instance
theorem key_eq {a b : ByteArray} (h : a.toList = b.toList) : a = b := by
  rw [ByteArray.toList_eq, ByteArray.toList_eq] at h
  obtain ⟨⟨x⟩⟩ := a
  obtain ⟨⟨y⟩⟩ := b
  simp at h
  rw [h]
theorem lt_irrefl (a : It) : lt a a = false := by unfold lt; rw [bl_irrefl]; simp
theorem le_refl (a : It) : le a a := lt_irrefl a
theorem lt_trans {a b c : It} (h1 : lt a b = true) (h2 : lt b c = true) : lt a c = true := by
  unfold lt at *
  simp only [Bool.or_eq_true, decide_eq_true_eq, Bool.and_eq_true, beq_iff_eq] at *
  rcases h1 with h1 | ⟨e1, h1⟩
  · rcases h2 with h2 | ⟨e2, h2⟩
    · exact .inl (by omega)
    · exact .inl (by omega)
  · rcases h2 with h2 | ⟨e2, h2⟩
    · exact .inl (by omega)
    · exact .inr ⟨by omega, bl_trans _ _ _ h1 h2⟩
theorem le_antisymm {a b : It} (h1 : le a b) (h2 : le b a) : a = b := by
  unfold le lt at *
  simp only [Bool.or_eq_false_iff, decide_eq_false_iff_not, Bool.and_eq_false_iff, beq_eq_false_iff_ne] at *
  have ht : a.time = b.time := by omega
  have hk := bl_total _ _ (h2.2.resolve_left (fun h => h ht)) (h1.2.resolve_left (fun h => h ht.symm))
  obtain ⟨t, k⟩ := a
  obtain ⟨t', k'⟩ := b
  simp only at ht hk
  rw [ht, key_eq hk]
theorem lt_le {a b : It} (h : lt a b = true) : le a b := by
  unfold le
  cases hb : lt b a with
  | false => rfl
  | true =>
    have := lt_trans h hb
    rw [lt_irrefl] at this
    cases this
theorem le_total (a b : It) : le a b ∨ le b a := by
  cases h : lt b a with
  | false => exact .inl h
  | true => exact .inr (lt_le h)
theorem lt_of_not_le {a b : It} (h : ¬ le a b) : lt b a = true := by
  cases hb : lt b a with
  | false => exact absurd hb h
  | true => rfl
theorem le_trans {a b c : It} (h1 : le a b) (h2 : le b c) : le a c := by
  by_cases he : a = b
  · rw [he]; exact h2
  · by_cases he2 : b = c
    · rw [← he2]; exact h1
    · have l1 : lt a b = true := lt_of_not_le (fun h => he (le_antisymm h1 h))
      have l2 : lt b c = true := lt_of_not_le (fun h => he2 (le_antisymm h2 h))
      exact lt_le (lt_trans l1 l2)
/- Rising lists. -/
def Ris (l : List It) : Prop := l.Pairwise le
/- So many from the front aren't behind x. -/
def spot (l : List It) (x : It) : Nat := (l.takeWhile fun y => !lt x y).length
def ins (l : List It) (x : It) : List It := l.take (spot l x) ++ x :: l.drop (spot l x)
theorem spot_le (l : List It) (x : It) : spot l x ≤ l.length := (List.takeWhile_sublist _).length_le
theorem ins_perm (l : List It) (x : It) : (ins l x).Perm (x :: l) := by
  unfold ins
  have h := List.perm_middle (a := x) (l₁ := l.take (spot l x)) (l₂ := l.drop (spot l x))
  rw [List.take_append_drop] at h
  exact h
theorem spot_front {x : It} : ∀ {l : List It} {i : Nat} (h : i < l.length), i < spot l x → le l[i] x
  | [], i, h, _ => by simp at h
  | y :: l, i, h, hi => by
    unfold spot at hi
    rw [List.takeWhile_cons] at hi
    cases hy : lt x y with
    | true => simp [hy] at hi
    | false =>
      simp only [hy, Bool.not_false, if_true, List.length_cons] at hi
      cases i with
      | zero => exact hy
      | succ i => exact spot_front (l := l) (by simpa using h) (by unfold spot; omega)
theorem spot_behind {x : It} : ∀ {l : List It}, Ris l → ∀ {i : Nat} (h : i < l.length), spot l x ≤ i → lt x l[i] = true
  | [], _, i, h, _ => by simp at h
  | y :: l, hr, i, h, hi => by
    have h2 := List.pairwise_cons.1 hr
    unfold spot at hi
    rw [List.takeWhile_cons] at hi
    cases hy : lt x y with
    | true =>
      cases i with
      | zero => exact hy
      | succ i =>
        have h3 := h2.1 (l[i]'(by simpa using h)) (List.getElem_mem _)
        show lt x (l[i]'(by simpa using h)) = true
        cases h4 : lt x (l[i]'(by simpa using h)) with
        | true => rfl
        | false =>
          have := le_trans h3 h4
          unfold le at this
          rw [hy] at this
          cases this
    | false =>
      simp only [hy, Bool.not_false, if_true, List.length_cons] at hi
      cases i with
      | zero => omega
      | succ i => exact spot_behind (l := l) h2.2 (by simpa using h) (by unfold spot; omega)
theorem ins_ris {l : List It} (h : Ris l) (x : It) : Ris (ins l x) := by
  unfold ins Ris
  have hr : (l.take (spot l x) ++ l.drop (spot l x)).Pairwise le := by rw [List.take_append_drop]; exact h
  have hp := List.pairwise_append.1 hr
  refine List.pairwise_append.2 ⟨hp.1, List.pairwise_cons.2 ⟨fun y hy => ?_, hp.2.1⟩, fun y hy z hz => ?_⟩
  · obtain ⟨i, hi, rfl⟩ := List.getElem_of_mem hy
    rw [List.getElem_drop]
    exact lt_le (spot_behind h _ (by omega))
  · rcases List.mem_cons.1 hz with rfl | hz
    · obtain ⟨i, hi, rfl⟩ := List.getElem_of_mem hy
      rw [List.length_take] at hi
      rw [List.getElem_take]
      exact spot_front _ (by omega)
    · exact hp.2.2 y hy z hz
/- The way back from the end to the spot: where the search from the end stops. -/
theorem spot_stop {l : List It} (hr : Ris l) {x : It} {i : Nat} (hi : i ≤ l.length) (h1 : ∀ j (h : j < l.length), i ≤ j → lt x l[j] = true) (h2 : ∀ (h : 0 < i), lt x (l[i - 1]'(by omega)) = false) : spot l x = i := by
  rcases Nat.lt_trichotomy (spot l x) i with h | h | h
  · have h3 := spot_behind hr (x := x) (i := i - 1) (by omega) (by omega)
    rw [h2 (by omega)] at h3
    cases h3
  · exact h
  · have hs := spot_le l x
    have h3 := spot_front (l := l) (x := x) (i := i) (by omega) h
    have h4 := h1 i (by omega) (Nat.le_refl _)
    unfold le at h3
    rw [h4] at h3
    cases h3
end Go.Proofs.Ytgjofinbdigmcaa.Exp
namespace Go.Proofs.Ytgjofinbdigmcaa.Exp
set_option linter.unusedVariables false
def nil : It := ⟨0, ⟨#[]⟩⟩
def look (l : List It) (i : Nat) : It := l.getD i nil
theorem look_get {l : List It} {i : Nat} (h : i < l.length) : look l i = l[i] := by simp [look, List.getD, h]
theorem look_set {l : List It} {i j : Nat} {x : It} (h : i < l.length) : look (l.set i x) j = if j = i then x else look l j := by
  simp only [look, List.getD, List.getElem?_set]
  by_cases hj : i = j
  · subst hj; simp [h]
  · rw [if_neg hj, if_neg (Ne.symm hj)]
def swap (l : List It) (i j : Nat) : List It := (l.set i (look l j)).set j (look l i)
theorem swap_length (l : List It) (i j : Nat) : (swap l i j).length = l.length := by simp [swap]
theorem look_swap {l : List It} {i j k : Nat} (hi : i < l.length) (hj : j < l.length) : look (swap l i j) k = if k = j then look l i else if k = i then look l j else look l k := by
  unfold swap
  rw [look_set (by rw [List.length_set]; exact hj), look_set hi]
theorem swap_perm {l : List It} {i j : Nat} (hi : i < l.length) (hj : j < l.length) : (swap l i j).Perm l := by
  have h := Array.swap_perm (xs := l.toArray) (i := i) (j := j) (by simpa using hi) (by simpa using hj)
  have h2 := h.toList
  have e : (l.toArray.swap i j (by simpa using hi) (by simpa using hj)).toList = swap l i j := by
    unfold swap
    rw [look_get hi, look_get hj]
    simp [Array.swap]
  rw [e] at h2
  exact h2
def par (i : Nat) : Nat := (i - 1) / 2
theorem par_lt {i : Nat} (h : 0 < i) : par i < i := by unfold par; omega
/- Each item is no less than the one above it. -/
def Hp (l : List It) : Prop := ∀ i, 0 < i → i < l.length → le (look l (par i)) (look l i)
theorem hp_root {l : List It} (h : Hp l) : ∀ i, i < l.length → le (look l 0) (look l i) := by
  intro i
  induction i using Nat.strongRecOn with
  | _ i ih =>
    intro hi
    by_cases h0 : i = 0
    · subst h0; exact le_refl _
    · have hp := par_lt (i := i) (by omega)
      exact le_trans (ih (par i) hp (by omega)) (h i (by omega) hi)
theorem hp_nil : Hp [] := fun i _ h => by simp at h
/- But for item i, and what lies below it fits to what lies above it. -/
structure UpAt (l : List It) (i : Nat) : Prop where
  rest : ∀ j, 0 < j → j < l.length → j ≠ i → le (look l (par j)) (look l j)
  past : 0 < i → ∀ j, 0 < j → j < l.length → par j = i → le (look l (par i)) (look l j)
theorem UpAt.done {l : List It} {i : Nat} (h : UpAt l i) (hi : i = 0 ∨ le (look l (par i)) (look l i)) : Hp l := fun j h0 hj => by
  by_cases hji : j = i
  · subst hji
    rcases hi with hi | hi
    · omega
    · exact hi
  · exact h.rest j h0 hj hji
theorem UpAt.swap {l : List It} {i : Nat} (h : UpAt l i) (h0 : 0 < i) (hi : i < l.length) (hlt : lt (look l i) (look l (par i)) = true) : UpAt (swap l i (par i)) (par i) := by
  have hp := par_lt h0
  have hpl : par i < l.length := by omega
  have hle := lt_le hlt
  refine ⟨fun j h1 h2 h3 => ?_, fun h1 j h2 h3 h4 => ?_⟩
  · rw [swap_length] at h2
    rw [look_swap hi hpl, look_swap hi hpl]
    have hjp := par_lt h1
    by_cases hji : j = i
    · subst hji
      rw [if_pos rfl, if_neg (by omega), if_pos rfl]
      exact hle
    · rw [if_neg h3, if_neg hji]
      by_cases hpp : par j = par i
      · rw [if_pos hpp]
        have := h.rest j h1 h2 hji
        rw [hpp] at this
        exact le_trans hle this
      · rw [if_neg hpp]
        by_cases hpi : par j = i
        · rw [if_pos hpi]
          exact h.past h0 j h1 h2 hpi
        · rw [if_neg hpi]
          exact h.rest j h1 h2 hji
  · rw [swap_length] at h3
    rw [look_swap hi hpl, look_swap hi hpl]
    have hpp := par_lt h1
    have hj : j ≠ par i := by intro e; have := par_lt h2; omega
    rw [if_neg (by omega : par (par i) ≠ par i), if_neg (by omega : par (par i) ≠ i), if_neg hj]
    have hup := h.rest (par i) h1 hpl (by omega)
    by_cases hji : j = i
    · rw [if_pos hji]
      exact hup
    · rw [if_neg hji]
      have := h.rest j h2 h3 hji
      rw [h4] at this
      exact le_trans hup this
/- A new last item. -/
theorem UpAt.last {l : List It} (h : Hp l) (x : It) : UpAt (l ++ [x]) l.length := by
  have hl : ∀ j, j < l.length → look (l ++ [x]) j = look l j := fun j hj => by simp [look, List.getD, List.getElem?_append_left hj]
  refine ⟨fun j h0 h1 h2 => ?_, fun h0 j h1 h2 h3 => ?_⟩
  · simp at h1
    have hp := par_lt h0
    rw [hl j (by omega), hl (par j) (by omega)]
    exact h j h0 (by omega)
  · simp at h2
    have hp := par_lt h1
    omega
def up : Nat → List It → Nat → List It
  | 0, l, i => l
  | f + 1, l, i => if 0 < i ∧ lt (look l i) (look l (par i)) = true then up f (swap l i (par i)) (par i) else l
theorem up_all : ∀ {f : Nat} {l : List It} {i : Nat}, UpAt l i → i < l.length → i < f → Hp (up f l i) ∧ (up f l i).Perm l
  | 0, l, i, _, _, h => by omega
  | f + 1, l, i, h, hi, hf => by
    unfold up
    by_cases hc : 0 < i ∧ lt (look l i) (look l (par i)) = true
    · rw [if_pos hc]
      have hp := par_lt hc.1
      obtain ⟨k1, k2⟩ := up_all (f := f) (h.swap hc.1 hi hc.2) (by rw [swap_length]; omega) (by omega)
      exact ⟨k1, k2.trans (swap_perm hi (by omega))⟩
    · rw [if_neg hc]
      refine ⟨h.done ?_, List.Perm.refl _⟩
      by_cases h0 : i = 0
      · exact .inl h0
      · refine .inr ?_
        unfold le
        cases hx : lt (look l i) (look l (par i)) with
        | false => rfl
        | true => exact absurd ⟨by omega, hx⟩ hc
/- But for what lies right below item i, and that fits to what lies above it. -/
structure DownAt (l : List It) (i : Nat) : Prop where
  rest : ∀ j, 0 < j → j < l.length → par j ≠ i → le (look l (par j)) (look l j)
  past : 0 < i → ∀ j, 0 < j → j < l.length → par j = i → le (look l (par i)) (look l j)
theorem DownAt.done {l : List It} {i : Nat} (h : DownAt l i) (hc : ∀ j, 0 < j → j < l.length → par j = i → le (look l i) (look l j)) : Hp l := fun j h0 hj => by
  by_cases hp : par j = i
  · rw [hp]; exact hc j h0 hj hp
  · exact h.rest j h0 hj hp
theorem par_two {i j : Nat} (h0 : 0 < j) (h : par j = i) : j = 2 * i + 1 ∨ j = 2 * i + 2 := by unfold par at h; omega
theorem DownAt.swap {l : List It} {i c : Nat} (h : DownAt l i) (h0 : 0 < c) (hc : c < l.length) (hp : par c = i) (hlt : lt (look l c) (look l i) = true) (hmin : ∀ j, 0 < j → j < l.length → par j = i → le (look l c) (look l j)) : DownAt (swap l i c) c := by
  have hic : i < c := by have := par_lt h0; omega
  have hi : i < l.length := by omega
  have hle := lt_le hlt
  refine ⟨fun j h1 h2 h3 => ?_, fun h1 j h2 h3 h4 => ?_⟩
  · rw [swap_length] at h2
    rw [look_swap hi hc, look_swap hi hc]
    have hjp := par_lt h1
    by_cases hjc : j = c
    · subst hjc
      rw [if_pos rfl, if_neg (by omega), if_pos hp]
      exact hle
    · rw [if_neg hjc, if_neg h3]
      by_cases hji : j = i
      · subst hji
        rw [if_pos rfl, if_neg (by omega)]
        exact h.past h1 c h0 hc hp
      · rw [if_neg hji]
        by_cases hpi : par j = i
        · rw [if_pos hpi]
          exact hmin j h1 h2 hpi
        · rw [if_neg hpi]
          exact h.rest j h1 h2 hpi
  · rw [swap_length] at h3
    rw [look_swap hi hc, look_swap hi hc]
    have hjc : j ≠ c := by intro e; have := par_lt h2; omega
    have hji : j ≠ i := by intro e; have := par_lt h2; omega
    rw [hp, if_neg (by omega), if_pos rfl, if_neg hjc, if_neg hji]
    have := h.rest j h2 h3 (by omega)
    rw [h4] at this
    exact this
def least (l : List It) (i : Nat) : Nat := if 2 * i + 2 < l.length ∧ lt (look l (2 * i + 2)) (look l (2 * i + 1)) = true then 2 * i + 2 else 2 * i + 1
theorem least_min {l : List It} {i : Nat} (h : 2 * i + 1 < l.length) : 0 < least l i ∧ least l i < l.length ∧ par (least l i) = i ∧ ∀ j, 0 < j → j < l.length → par j = i → le (look l (least l i)) (look l j) := by
  unfold least
  split
  · rename_i hc
    refine ⟨by omega, hc.1, by unfold par; omega, fun j h0 hj hp => ?_⟩
    rcases par_two h0 hp with rfl | rfl
    · exact lt_le hc.2
    · exact le_refl _
  · rename_i hc
    refine ⟨by omega, h, by unfold par; omega, fun j h0 hj hp => ?_⟩
    rcases par_two h0 hp with rfl | rfl
    · exact le_refl _
    · unfold le
      cases hx : lt (look l (2 * i + 2)) (look l (2 * i + 1)) with
      | false => rfl
      | true => exact absurd ⟨hj, hx⟩ hc
def down : Nat → List It → Nat → List It
  | 0, l, i => l
  | f + 1, l, i => if 2 * i + 1 < l.length then (if lt (look l (least l i)) (look l i) = true then down f (swap l i (least l i)) (least l i) else l) else l
theorem down_all : ∀ {f : Nat} {l : List It} {i : Nat}, DownAt l i → l.length < f + i + 1 → Hp (down f l i) ∧ (down f l i).Perm l
  | 0, l, i, h, hf => ⟨h.done (fun j h0 hj hp => by have := par_lt h0; omega), List.Perm.refl _⟩
  | f + 1, l, i, h, hf => by
    unfold down
    by_cases hc : 2 * i + 1 < l.length
    · rw [if_pos hc]
      obtain ⟨m1, m2, m3, m4⟩ := least_min hc
      have hic : i < least l i := by have := par_lt m1; omega
      by_cases hl : lt (look l (least l i)) (look l i) = true
      · rw [if_pos hl]
        obtain ⟨k1, k2⟩ := down_all (f := f) (h.swap m1 m2 m3 hl m4) (by rw [swap_length]; omega)
        exact ⟨k1, k2.trans (swap_perm (by omega) m2)⟩
      · rw [if_neg hl]
        refine ⟨h.done (fun j h0 hj hp => ?_), List.Perm.refl _⟩
        have h1 : le (look l i) (look l (least l i)) := by
          unfold le
          cases hx : lt (look l (least l i)) (look l i) with
          | false => rfl
          | true => exact absurd hx hl
        exact le_trans h1 (m4 j h0 hj hp)
    · rw [if_neg hc]
      refine ⟨h.done (fun j h0 hj hp => ?_), List.Perm.refl _⟩
      rcases par_two h0 hp with rfl | rfl <;> omega
/- The last item takes the first one's place. -/
theorem DownAt.first {l : List It} (h : Hp l) (x : It) : DownAt (l.set 0 x) 0 := by
  refine ⟨fun j h0 hj hp => ?_, fun h0 => by omega⟩
  rw [List.length_set] at hj
  have hl : 0 < l.length := by omega
  rw [look_set hl, look_set hl, if_neg hp, if_neg (by omega)]
  exact h j h0 hj
theorem hp_take {l : List It} (h : Hp l) (n : Nat) : Hp (l.take n) := by
  intro j h0 hj
  rw [List.length_take] at hj
  have hp := par_lt h0
  have e : ∀ k, k < n → look (l.take n) k = look l k := fun k hk => by simp [look, List.getD, hk]
  rw [e j (by omega), e (par j) (by omega)]
  exact h j h0 (by omega)
/- The least one: what a heap has first is what a rising list of the same items has first. -/
theorem least_one {x y : It} {h m : List It} (hh : Hp (x :: h)) (hm : Ris (y :: m)) (hp : (x :: h).Perm (y :: m)) : x = y := by
  have h1 : le x y := by
    have hy : y ∈ x :: h := hp.symm.subset (List.mem_cons_self ..)
    obtain ⟨i, hi, he⟩ := List.getElem_of_mem hy
    have := hp_root hh i hi
    rw [look_get hi, he] at this
    exact this
  have h2 : le y x := by
    have hx : x ∈ y :: m := hp.subset (List.mem_cons_self ..)
    rcases List.mem_cons.1 hx with e | e
    · rw [e]; exact le_refl _
    · exact (List.pairwise_cons.1 hm).1 x e
  exact le_antisymm h1 h2
end Go.Proofs.Ytgjofinbdigmcaa.Exp
namespace Go.Proofs.Ytgjofinbdigmcaa.Exp
open Go.Proofs.Ytgjofinbdigmcaa.Mem
open Go.ChangeShapes Go.WideShapes Go.ChangeAt Go.RowKit
set_option linter.unusedVariables false
set_option linter.unusedSimpArgs false
theorem flat_length {α : Type} {f : α → List Value} {k : Nat} (hf : ∀ x, (f x).length = k) : ∀ l : List α, (l.flatMap f).length = l.length * k
  | [] => by simp
  | x :: r => by
    rw [List.flatMap_cons, List.length_append, hf, flat_length hf r, List.length_cons, Nat.add_mul]
    omega
theorem flat_get {α : Type} {f : α → List Value} {k : Nat} (hf : ∀ x, (f x).length = k) : ∀ {l : List α} {i j : Nat} {x : α}, l[i]? = some x → j < k → (l.flatMap f)[i * k + j]? = (f x)[j]?
  | [], i, j, x, h, _ => by simp at h
  | y :: r, i, j, x, h, hj => by
    rw [List.flatMap_cons]
    cases i with
    | zero =>
      simp at h
      subst h
      rw [Nat.zero_mul, Nat.zero_add, List.getElem?_append_left (by rw [hf]; exact hj)]
    | succ i =>
      have ih := flat_get hf (l := r) (i := i) (j := j) (x := x) (by simpa using h) hj
      rw [List.getElem?_append_right (by rw [hf, Nat.add_mul]; omega), hf, Nat.add_mul, show i * k + 1 * k + j - k = i * k + j by omega]
      exact ih
theorem blk_setCells {g : Nat} {t : TypeId} : ∀ {vs A B C : List Value} {w : World}, Blk w g t (A ++ B ++ C).toArray → B.length = vs.length → Blk (w.setCells g A.length vs) g t (A ++ vs ++ C).toArray
  | [], A, B, C, w, h, hl => by
    have : B = [] := List.eq_nil_of_length_eq_zero (by simpa using hl)
    subst this
    exact h
  | v :: vs, A, [], C, w, h, hl => by simp at hl
  | v :: vs, A, b :: B, C, w, h, hl => by
    rw [World.setCells]
    have h1 := h.set_ A.length v
    have e : ((A ++ b :: B ++ C).toArray.setIfInBounds A.length v) = ((A ++ [v]) ++ B ++ C).toArray := by
      simp [List.append_assoc]
    rw [e] at h1
    have := blk_setCells (vs := vs) (A := A ++ [v]) (B := B) (C := C) h1 (by simpa using hl)
    simpa [List.append_assoc] using this
theorem but_setCells (g : Nat) : ∀ (vs : List Value) (o : Nat) (w : World), But (fun k => k = g) w (w.setCells g o vs)
  | [], o, w => But.refl _ w
  | v :: vs, o, w => by
    rw [World.setCells]
    exact ((But.refl (fun k => k = g) w).setCell (p := ⟨g, o, none⟩) rfl v).trans' (but_setCells g vs (o + 1) _)
theorem flat_split {α : Type} {f : α → List Value} {l : List α} {i : Nat} {x : α} (h : l[i]? = some x) : l.flatMap f = (l.take i).flatMap f ++ f x ++ (l.drop (i + 1)).flatMap f := by
  obtain ⟨hi, rfl⟩ := List.getElem?_eq_some_iff.1 h
  have e : l = l.take i ++ l[i] :: l.drop (i + 1) := by rw [← List.drop_eq_getElem_cons hi, List.take_append_drop]
  have e2 := congrArg (fun l => l.flatMap f) e
  simp only [List.flatMap_append, List.flatMap_cons] at e2
  rw [List.append_assoc]
  exact e2
theorem flat_set {α : Type} {f : α → List Value} {l : List α} {i : Nat} (y : α) (hi : i < l.length) : (l.set i y).flatMap f = (l.take i).flatMap f ++ f y ++ (l.drop (i + 1)).flatMap f := by
  have e : l.set i y = l.take i ++ y :: l.drop (i + 1) := List.set_eq_take_append_cons_drop.trans (by rw [if_pos hi])
  rw [e]
  simp [List.flatMap_append, List.append_assoc]
/- Items' cells; a row of items, and what lies behind it in its block. -/
def icells (x : It) : List Value := [.int .u64 (x.time : Int), .string x.key]
theorem icells_length (x : It) : (icells x).length = 2 := rfl
theorem icells_one (x : It) : ∀ v ∈ icells x, v.oneCell' = true := by
  intro v hv
  simp only [icells, List.mem_cons, List.not_mem_nil, or_false] at hv
  rcases hv with rfl | rfl <;> rfl
def rowI (l : List It) : List Value := l.flatMap icells
theorem rowI_length (l : List It) : (rowI l).length = l.length * 2 := flat_length icells_length l
theorem look_some {l : List It} {i : Nat} (h : i < l.length) : l[i]? = some (look l i) := by simp [look, List.getD, h]
theorem item_info : (Try.prog.info? 83).map (fun i => (i.zero, i.size, i.bytes)) = some (some (.agg (icells nil).toArray), 2, 24) := by kernel_rfl
theorem item_size : (Try.prog.info? 83).map (·.size) = some 2 := by kernel_rfl
structure IRow (w : World) (t : TypeId) (g : Nat) (l : List It) (rest : List Value) : Prop where
  blk : Blk w g t (rowI l ++ rest).toArray
section
variable {w w' : World} {t : TypeId} {g : Nat} {l : List It} {rest : List Value}
theorem IRow.range (h : IRow w t g l rest) {i : Nat} (hi : i < l.length) : w.rangeAt g (i * 2) (icells (look l i)) := by
  intro j v hv
  have hj : j < 2 := by rw [← icells_length (look l i)]; exact (List.getElem?_eq_some_iff.1 hv).1
  rw [h.blk.cell, List.getElem?_toArray, List.getElem?_append_left (by rw [rowI_length]; omega)]
  unfold rowI
  rw [flat_get icells_length (look_some hi) hj]
  exact hv
theorem IRow.cells (h : IRow w t g l rest) {i : Nat} (hi : i < l.length) : w.cell? ⟨g, i * 2, none⟩ = some (.int .u64 ((look l i).time : Int)) ∧ w.cell? ⟨g, i * 2 + 1, none⟩ = some (.string (look l i).key) :=
  ⟨h.range hi 0 _ rfl, h.range hi 1 _ rfl⟩
theorem IRow.there (h : IRow w t g l rest) {i : Nat} (hi : i < l.length) : w.there g (i * 2) 2 := by
  intro j hj
  refine ⟨?_, h.blk.frozen _⟩
  exact (h.range hi).isSome j (by rw [icells_length]; exact hj)
theorem IRow.put (h : IRow w t g l rest) {i : Nat} (hi : i < l.length) (y : It) : IRow (w.setCells g (i * 2) (icells y)) t g (l.set i y) rest := by
  refine ⟨?_⟩
  have h1 := h.blk
  unfold rowI at h1 ⊢
  rw [flat_split (look_some hi), List.append_assoc] at h1
  have := blk_setCells (vs := icells y) h1 (by rw [icells_length, icells_length])
  rw [flat_length icells_length, List.length_take, Nat.min_eq_left (by omega)] at this
  rw [flat_set y hi, List.append_assoc]
  exact this
theorem IRow.but {F : Nat → Prop} (h : IRow w t g l rest) (hb : But F w w') (h1 : ¬ F g) : IRow w' t g l rest := ⟨h.blk.but hb h1⟩
theorem IRow.drewN (h : IRow w t g l rest) (q : Nat) : IRow (w.drewN q) t g l rest := ⟨h.blk⟩
end
/- The heap: its block p, its places v. -/
structure HAt (w : World) (B p : Nat) (v : Value) (l : List It) : Prop where
  blk : Blk w p 74 #[v]
  own : w.ownsRow B 83 2 v l.length (rowI l)
  base : B ≤ p
  few : l.length ≤ 1000
def Foot (p : Nat) (v : Value) (k : Nat) : Prop := k = p ∨ some k = v.ownBlock
def Next (w : World) (v v' : Value) : Prop := v'.ownBlock = v.ownBlock ∨ ∀ k, v'.ownBlock = some k → w.heap.size ≤ k
section
variable {w w' w'' : World} {B p : Nat} {v v' v'' : Value} {l : List It}
theorem HAt.but {F : Nat → Prop} (h : HAt w B p v l) (hb : But F w w') (h1 : ¬ F p) (h2 : ∀ k, v.ownBlock = some k → ¬ F k) : HAt w' B p v l :=
  ⟨h.blk.but hb h1, ownsRow_but h.own hb h2, h.base, h.few⟩
theorem HAt.new (h : HAt w B p v l) (hb : But (fun _ => False) w w') : HAt w' B p v l := h.but hb (fun h => h) (fun _ _ h => h)
theorem HAt.row (h : HAt w B p v l) (hl : 0 < l.length) : ∃ g cap rest, v = .slice (some ⟨g, 0, none⟩) l.length cap ∧ l.length ≤ cap ∧ cap ≤ maxLen ∧ B ≤ g ∧ rest.length = (cap - l.length) * 2 ∧ IRow w 83 g l rest := by
  rcases h.own.2 with ⟨_, h2⟩ | ⟨g, cap, cur, h1, h2, h3, h4, h5, h6, h7⟩
  · omega
  · refine ⟨g, cap, cur.toList.drop (l.length * 2), h1, h4, h5, h2, ?_, ⟨?_⟩⟩
    · rw [List.length_drop, Array.length_toList, h6, Nat.sub_mul]
    · show w.heap[g]? = _
      rw [← h7, List.take_append_drop, Array.toArray_toList]
      exact h3
theorem HAt.shape (h : HAt w B p v l) : ∃ a cap, v = .slice a l.length cap := by
  rcases h.own.2 with ⟨h1, h2⟩ | ⟨g, cap, cur, h1, _⟩
  · exact ⟨none, 0, by rw [h1, h2]⟩
  · exact ⟨_, _, h1⟩
theorem HAt.lt (h : HAt w B p v l) : p < w.heap.size ∧ ∀ k, v.ownBlock = some k → B ≤ k ∧ k < w.heap.size ∧ k ≠ p := by
  refine ⟨h.blk.lt, fun k hk => ⟨(h.own.lt k hk).1, (h.own.lt k hk).2, fun e => ?_⟩⟩
  exact own_blk_ne h.own h.blk (by decide) (by rw [hk, e])
theorem own_of_row {g cap : Nat} {rest : List Value} (h : IRow w 83 g l rest) (hB : B ≤ g) (hc : l.length ≤ cap) (hm : cap ≤ maxLen) (hr : rest.length = (cap - l.length) * 2) :
    w.ownsRow B 83 2 (.slice (some ⟨g, 0, none⟩) l.length cap) l.length (rowI l) := by
  refine ⟨rowI_length l, .inr ⟨g, cap, _, rfl, hB, h.blk, hc, hm, ?_, ?_⟩⟩
  · rw [List.size_toArray, List.length_append, rowI_length, hr, ← Nat.add_mul]
    congr 1
    omega
  · rw [List.toList_toArray, List.take_append_of_le_length (by rw [rowI_length]; exact Nat.le_refl _), List.take_of_length_le (by rw [rowI_length]; exact Nat.le_refl _)]
theorem Next.refl (w : World) (v : Value) : Next w v v := .inl rfl
theorem Next.trans (h : Next w v v') (hs : w.heap.size ≤ w'.heap.size) (k : Next w' v' v'') : Next w v v'' := by
  rcases k with k | k
  · rcases h with h | h
    · exact .inl (k.trans h)
    · exact .inr (fun j hj => h j (by rw [← k]; exact hj))
  · exact .inr (fun j hj => Nat.le_trans hs (k j hj))
/- One turn of the heap behind another. -/
theorem foot_trans (h : But (Foot p v) w w') (n : Next w v v') (k : But (Foot p v') w' w'') : But (Foot p v) w w'' := h.trans k (fun i hi hf => by
  rcases hf with e | e
  · exact .inl e
  · rcases n with n | n
    · exact .inr (e.trans n)
    · have := n i e.symm
      omega)
end
/- The library's calls of the heap's methods. -/
theorem m_len {w : World} {p : Nat} {v : Value} (h : w.cell? ⟨p, 0, none⟩ = some v) : Sem.run Try.prog (method (Try.prog.types.size + 100) 105 (.pointer (some ⟨p, 0, none⟩)) "Len") w = .ok (109, v) w := by
  have e : Sem.run Try.prog (method (Try.prog.types.size + 100) 105 (.pointer (some ⟨p, 0, none⟩)) "Len") w = Sem.run Try.prog (load ⟨p, 0, none⟩ >>= fun x => pure (109, x)) w := by kernel_rfl
  rw [e, Sem.run_bind]
  simp [h]
theorem m_less {w : World} {p : Nat} {v : Value} (h : w.cell? ⟨p, 0, none⟩ = some v) : Sem.run Try.prog (method (Try.prog.types.size + 100) 105 (.pointer (some ⟨p, 0, none⟩)) "Less") w = .ok (110, v) w := by
  have e : Sem.run Try.prog (method (Try.prog.types.size + 100) 105 (.pointer (some ⟨p, 0, none⟩)) "Less") w = Sem.run Try.prog (load ⟨p, 0, none⟩ >>= fun x => pure (110, x)) w := by kernel_rfl
  rw [e, Sem.run_bind]
  simp [h]
theorem m_swap {w : World} {p : Nat} {v : Value} (h : w.cell? ⟨p, 0, none⟩ = some v) : Sem.run Try.prog (method (Try.prog.types.size + 100) 105 (.pointer (some ⟨p, 0, none⟩)) "Swap") w = .ok (111, v) w := by
  have e : Sem.run Try.prog (method (Try.prog.types.size + 100) 105 (.pointer (some ⟨p, 0, none⟩)) "Swap") w = Sem.run Try.prog (load ⟨p, 0, none⟩ >>= fun x => pure (111, x)) w := by kernel_rfl
  rw [e, Sem.run_bind]
  simp [h]
theorem m_push (w : World) (x : Value) : Sem.run Try.prog (method (Try.prog.types.size + 100) 105 x "Push") w = .ok (114, x) w := by kernel_rfl
theorem m_pop (w : World) (x : Value) : Sem.run Try.prog (method (Try.prog.types.size + 100) 105 x "Pop") w = .ok (113, x) w := by kernel_rfl
end Go.Proofs.Ytgjofinbdigmcaa.Exp

/- Items by times and keys, rising lists of them, and heaps, as plain lists: an item put into a rising list, a heap's item that moves up, or down, and that what a heap gives is what a rising list gives. -/
import Derived.Test.YtdkknjgjogekiaaProg
import Derived.WalkKit
namespace Go.Proofs.Ytdkknjgjogekiaa.Exp
set_option linter.unusedVariables false
structure It where
  time : Nat
  key : ByteArray
deriving DecidableEq
/- Texts by their bytes. -/
theorem bl_irrefl : ∀ a : List UInt8, Op.bytesLess a a = false
  | [] => rfl
  | x :: a => by rw [Op.bytesLess, bl_irrefl a]; simp
theorem bl_cons (x y : UInt8) (a b : List UInt8) : Op.bytesLess (x :: a) (y :: b) = (decide (x < y) || (x == y && Op.bytesLess a b)) := by rw [Op.bytesLess]
theorem bl_total : ∀ a b : List UInt8, Op.bytesLess a b = false → Op.bytesLess b a = false → a = b
  | [], [], _, _ => rfl
  | [], _ :: _, h, _ => by rw [Op.bytesLess] at h; cases h
  | _ :: _, [], _, h => by rw [Op.bytesLess] at h; cases h
  | x :: a, y :: b, h1, h2 => by
    rw [bl_cons] at h1 h2
    simp only [Bool.or_eq_false_iff, decide_eq_false_iff_not, UInt8.lt_iff_toNat_lt, Bool.and_eq_false_iff, beq_eq_false_iff_ne] at h1 h2
    have he : x = y := UInt8.toNat_inj.1 (by omega)
    subst he
    rw [bl_total a b (h1.2.resolve_left (fun h => h rfl)) (h2.2.resolve_left (fun h => h rfl))]
theorem bl_trans : ∀ a b c : List UInt8, Op.bytesLess a b = true → Op.bytesLess b c = true → Op.bytesLess a c = true
  | _, [], _, h, _ => by rw [Op.bytesLess] at h; cases h
  | _, _ :: _, [], _, h => by rw [Op.bytesLess] at h; cases h
  | [], _ :: _, _ :: _, _, _ => by rw [Op.bytesLess]
  | x :: a, y :: b, z :: c, h1, h2 => by
    rw [bl_cons] at h1 h2 ⊢
    simp only [Bool.or_eq_true, decide_eq_true_eq, UInt8.lt_iff_toNat_lt, Bool.and_eq_true, beq_iff_eq] at h1 h2 ⊢
    rcases h1 with h1 | ⟨rfl, h1⟩
    · rcases h2 with h2 | ⟨rfl, h2⟩
      · exact .inl (by omega)
      · exact .inl h1
    · rcases h2 with h2 | ⟨rfl, h2⟩
      · exact .inl h2
      · exact .inr ⟨rfl, bl_trans a b c h1 h2⟩
/- Is an item ahead of another one? -/
def lt (a b : It) : Bool := decide (a.time < b.time) || (a.time == b.time && Op.bytesLess a.key.toList b.key.toList)
def le (a b : It) : Prop := lt b a = false
instance (a b : It) : Decidable (le a b) := by unfold le; infer_instance
theorem key_eq {a b : ByteArray} (h : a.toList = b.toList) : a = b := by
  rw [ByteArray.toList_eq, ByteArray.toList_eq] at h
  obtain ⟨⟨x⟩⟩ := a
  obtain ⟨⟨y⟩⟩ := b
  simp at h
  rw [h]
theorem lt_irrefl (a : It) : lt a a = false := by unfold lt; rw [bl_irrefl]; simp
theorem le_refl (a : It) : le a a := lt_irrefl a
theorem lt_trans {a b c : It} (h1 : lt a b = true) (h2 : lt b c = true) : lt a c = true := by
  unfold lt at *
  simp only [Bool.or_eq_true, decide_eq_true_eq, Bool.and_eq_true, beq_iff_eq] at *
  rcases h1 with h1 | ⟨e1, h1⟩
  · rcases h2 with h2 | ⟨e2, h2⟩
    · exact .inl (by omega)
    · exact .inl (by omega)
  · rcases h2 with h2 | ⟨e2, h2⟩
    · exact .inl (by omega)
    · exact .inr ⟨by omega, bl_trans _ _ _ h1 h2⟩
theorem le_antisymm {a b : It} (h1 : le a b) (h2 : le b a) : a = b := by
  unfold le lt at *
  simp only [Bool.or_eq_false_iff, decide_eq_false_iff_not, Bool.and_eq_false_iff, beq_eq_false_iff_ne] at *
  have ht : a.time = b.time := by omega
  have hk := bl_total _ _ (h2.2.resolve_left (fun h => h ht)) (h1.2.resolve_left (fun h => h ht.symm))
  obtain ⟨t, k⟩ := a
  obtain ⟨t', k'⟩ := b
  simp only at ht hk
  rw [ht, key_eq hk]
theorem lt_le {a b : It} (h : lt a b = true) : le a b := by
  unfold le
  cases hb : lt b a with
  | false => rfl
  | true =>
    have := lt_trans h hb
    rw [lt_irrefl] at this
    cases this
theorem le_total (a b : It) : le a b ∨ le b a := by
  cases h : lt b a with
  | false => exact .inl h
  | true => exact .inr (lt_le h)
theorem lt_of_not_le {a b : It} (h : ¬ le a b) : lt b a = true := by
  cases hb : lt b a with
  | false => exact absurd hb h
  | true => rfl
theorem le_trans {a b c : It} (h1 : le a b) (h2 : le b c) : le a c := by
  by_cases he : a = b
  · rw [he]; exact h2
  · by_cases he2 : b = c
    · rw [← he2]; exact h1
    · have l1 : lt a b = true := lt_of_not_le (fun h => he (le_antisymm h1 h))
      have l2 : lt b c = true := lt_of_not_le (fun h => he2 (le_antisymm h2 h))
      exact lt_le (lt_trans l1 l2)
/- Rising lists. -/
def Ris (l : List It) : Prop := l.Pairwise le
/- So many from the front aren't behind x. -/
def spot (l : List It) (x : It) : Nat := (l.takeWhile fun y => !lt x y).length
def ins (l : List It) (x : It) : List It := l.take (spot l x) ++ x :: l.drop (spot l x)
theorem spot_le (l : List It) (x : It) : spot l x ≤ l.length := (List.takeWhile_sublist _).length_le
theorem ins_perm (l : List It) (x : It) : (ins l x).Perm (x :: l) := by
  unfold ins
  have h := List.perm_middle (a := x) (l₁ := l.take (spot l x)) (l₂ := l.drop (spot l x))
  rw [List.take_append_drop] at h
  exact h
theorem spot_front {x : It} : ∀ {l : List It} {i : Nat} (h : i < l.length), i < spot l x → le l[i] x
  | [], i, h, _ => by simp at h
  | y :: l, i, h, hi => by
    unfold spot at hi
    rw [List.takeWhile_cons] at hi
    cases hy : lt x y with
    | true => simp [hy] at hi
    | false =>
      simp only [hy, Bool.not_false, if_true, List.length_cons] at hi
      cases i with
      | zero => exact hy
      | succ i => exact spot_front (l := l) (by simpa using h) (by unfold spot; omega)
theorem spot_behind {x : It} : ∀ {l : List It}, Ris l → ∀ {i : Nat} (h : i < l.length), spot l x ≤ i → lt x l[i] = true
  | [], _, i, h, _ => by simp at h
  | y :: l, hr, i, h, hi => by
    have h2 := List.pairwise_cons.1 hr
    unfold spot at hi
    rw [List.takeWhile_cons] at hi
    cases hy : lt x y with
    | true =>
      cases i with
      | zero => exact hy
      | succ i =>
        have h3 := h2.1 (l[i]'(by simpa using h)) (List.getElem_mem _)
        show lt x (l[i]'(by simpa using h)) = true
        cases h4 : lt x (l[i]'(by simpa using h)) with
        | true => rfl
        | false =>
          have := le_trans h3 h4
          unfold le at this
          rw [hy] at this
          cases this
    | false =>
      simp only [hy, Bool.not_false, if_true, List.length_cons] at hi
      cases i with
      | zero => omega
      | succ i => exact spot_behind (l := l) h2.2 (by simpa using h) (by unfold spot; omega)
theorem ins_ris {l : List It} (h : Ris l) (x : It) : Ris (ins l x) := by
  unfold ins Ris
  have hr : (l.take (spot l x) ++ l.drop (spot l x)).Pairwise le := by rw [List.take_append_drop]; exact h
  have hp := List.pairwise_append.1 hr
  refine List.pairwise_append.2 ⟨hp.1, List.pairwise_cons.2 ⟨fun y hy => ?_, hp.2.1⟩, fun y hy z hz => ?_⟩
  · obtain ⟨i, hi, rfl⟩ := List.getElem_of_mem hy
    rw [List.getElem_drop]
    exact lt_le (spot_behind h _ (by omega))
  · rcases List.mem_cons.1 hz with rfl | hz
    · obtain ⟨i, hi, rfl⟩ := List.getElem_of_mem hy
      rw [List.length_take] at hi
      rw [List.getElem_take]
      exact spot_front _ (by omega)
    · exact hp.2.2 y hy z hz
/- The way back from the end to the spot: where the search from the end stops. -/
theorem spot_stop {l : List It} (hr : Ris l) {x : It} {i : Nat} (hi : i ≤ l.length) (h1 : ∀ j (h : j < l.length), i ≤ j → lt x l[j] = true) (h2 : ∀ (h : 0 < i), lt x (l[i - 1]'(by omega)) = false) : spot l x = i := by
  rcases Nat.lt_trichotomy (spot l x) i with h | h | h
  · have h3 := spot_behind hr (x := x) (i := i - 1) (by omega) (by omega)
    rw [h2 (by omega)] at h3
    cases h3
  · exact h
  · have hs := spot_le l x
    have h3 := spot_front (l := l) (x := x) (i := i) (by omega) h
    have h4 := h1 i (by omega) (Nat.le_refl _)
    unfold le at h3
    rw [h4] at h3
    cases h3
end Go.Proofs.Ytdkknjgjogekiaa.Exp

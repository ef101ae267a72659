/- Lists by rising names: where a name stands. -/
import Derived.Test.YtiaaadeenbjciaaDiskMath
namespace Go.Proofs.Ytiaaadeenbjciaa.Disk
open Go.Proofs.Ytiaaadeenbjciaa.Mem Go.RowKit
set_option linter.unusedVariables false
section
variable {α β : Type}
def Rise (l : List (Nm × α)) : Prop := l.Pairwise fun x y => x.1 < y.1
theorem nm_irrefl (x : Nm) : ¬ x < x := List.lt_irrefl x
theorem nm_trans {x y z : Nm} (h : x < y) (k : y < z) : x < z := List.lt_trans h k
theorem nm_total (x y : Nm) : x < y ∨ x = y ∨ y < x := by
  rcases List.le_total x y with h | h
  · rcases List.le_iff_lt_or_eq.1 h with h | h
    · exact .inl h
    · exact .inr (.inl h)
  · rcases List.le_iff_lt_or_eq.1 h with h | h
    · exact .inr (.inr h)
    · exact .inr (.inl h.symm)
theorem Rise.apart {l : List (Nm × α)} (h : Rise l) : Apart l := h.imp fun {x y} hlt e => by rw [e] at hlt; exact nm_irrefl _ hlt
theorem Rise.mapv {l : List (Nm × α)} (h : Rise l) (f : α → β) : Rise (mapv f l) := List.pairwise_map.2 h
theorem Rise.of_mapv {l : List (Nm × α)} {f : α → β} (h : Rise (Disk.mapv f l)) : Rise l := by
  unfold Rise Disk.mapv at h
  rw [List.pairwise_map] at h
  exact h
theorem Rise.del {l : List (Nm × α)} (h : Rise l) (n : Nm) : Rise (del n l) := h.filter _
theorem Rise.upd {l : List (Nm × α)} (h : Rise l) (n : Nm) (f : α → α) : Rise (upd n f l) := by
  refine List.pairwise_map.2 (h.imp fun {x y} hne => ?_)
  split <;> split <;> exact hne
def pos (n : Nm) : List (Nm × α) → Nat
  | [] => 0
  | x :: r => if x.1 < n then pos n r + 1 else 0
theorem pos_le (n : Nm) : ∀ l : List (Nm × α), pos n l ≤ l.length
  | [] => Nat.le_refl _
  | x :: r => by
    have := pos_le n r
    unfold pos
    split
    · simp only [List.length_cons]; omega
    · exact Nat.zero_le _
theorem pos_lt {n : Nm} : ∀ {l : List (Nm × α)} {i : Nat} {x : Nm × α}, i < pos n l → l[i]? = some x → x.1 < n
  | [], i, x, h, _ => by unfold pos at h; omega
  | y :: r, i, x, h, hx => by
    unfold pos at h
    split at h
    · next hy =>
      cases i with
      | zero => simp at hx; subst hx; exact hy
      | succ i => exact pos_lt (l := r) (i := i) (by omega) (by simpa using hx)
    · omega
theorem pos_at {n : Nm} : ∀ {l : List (Nm × α)} {x : Nm × α}, l[pos n l]? = some x → ¬ x.1 < n
  | [], x, h => by simp at h
  | y :: r, x, h => by
    unfold pos at h
    split at h
    · exact pos_at (l := r) (by simpa using h)
    · next hy => simp at h; subst h; exact hy
theorem ins_pos (n : Nm) (a : α) : ∀ l : List (Nm × α), ins n a l = l.take (pos n l) ++ (n, a) :: l.drop (pos n l)
  | [] => rfl
  | x :: r => by
    unfold ins pos
    split
    · rw [ins_pos n a r]; rfl
    · rfl
theorem pos_mapv (f : α → β) (n : Nm) : ∀ l : List (Nm × α), pos n (mapv f l) = pos n l
  | [] => rfl
  | x :: r => by
    show (if x.1 < n then pos n (mapv f r) + 1 else 0) = if x.1 < n then pos n r + 1 else 0
    rw [pos_mapv f n r]
theorem look_pos {n : Nm} : ∀ {l : List (Nm × α)}, Rise l → look n l = match l[pos n l]? with | some x => if x.1 = n then some x.2 else none | none => none
  | [], _ => rfl
  | x :: r, h => by
    obtain ⟨h1, h2⟩ := List.pairwise_cons.1 h
    unfold look pos
    by_cases hx : x.1 < n
    · rw [if_pos hx, if_neg (fun e => by rw [e] at hx; exact nm_irrefl _ hx)]
      rw [look_pos h2]
      simp
    · rw [if_neg hx]
      simp only [List.getElem?_cons_zero]
      split
      · rfl
      · next hne =>
        rw [look_none]
        intro y hy e
        have := h1 y hy
        rw [e] at this
        exact hx this
theorem at_pos {n : Nm} {a : α} {l : List (Nm × α)} (hr : Rise l) (h : look n l = some a) : l[pos n l]? = some (n, a) := by
  rw [look_pos hr] at h
  rcases hp : l[pos n l]? with _ | x
  · rw [hp] at h; cases h
  · rw [hp] at h
    simp only at h
    split at h
    · next e => injection h with h; rw [← e, ← h]
    · cases h
theorem del_pos {n : Nm} {a : α} : ∀ {l : List (Nm × α)}, Rise l → look n l = some a → del n l = l.take (pos n l) ++ l.drop (pos n l + 1)
  | [], _, h => by cases h
  | x :: r, hr, h => by
    obtain ⟨h1, h2⟩ := List.pairwise_cons.1 hr
    unfold look at h
    by_cases hx : x.1 = n
    · have hnot : ¬ x.1 < n := by rw [hx]; exact nm_irrefl _
      unfold pos del
      rw [if_neg hnot, List.filter_cons, if_neg (by simp [hx])]
      simp only [List.take_zero, List.nil_append, List.drop_succ_cons, List.drop_zero, Nat.zero_add]
      exact List.filter_eq_self.2 (fun y hy => by
        have := h1 y hy
        rw [hx] at this
        simp only [ne_eq, decide_not, Bool.not_eq_eq_eq_not, Bool.not_true, decide_eq_false_iff_not]
        intro e; rw [e] at this; exact nm_irrefl _ this)
    · rw [if_neg hx] at h
      have hlt : x.1 < n := by
        have := h1 _ (look_mem h)
        exact this
      have ih := del_pos h2 h
      unfold del at ih
      unfold pos del
      rw [if_pos hlt, List.filter_cons, if_pos (by simp [hx]), ih]
      rfl
theorem upd_pos {n : Nm} {a : α} {f : α → α} : ∀ {l : List (Nm × α)}, Rise l → look n l = some a → upd n f l = l.set (pos n l) (n, f a)
  | [], _, h => by cases h
  | x :: r, hr, h => by
    obtain ⟨h1, h2⟩ := List.pairwise_cons.1 hr
    unfold look at h
    by_cases hx : x.1 = n
    · rw [if_pos hx] at h
      injection h with h
      have hnot : ¬ x.1 < n := by rw [hx]; exact nm_irrefl _
      unfold pos upd
      rw [if_neg hnot, List.map_cons, if_pos hx]
      simp only [List.set_cons_zero]
      rw [hx, h]
      congr 1
      conv => rhs; rw [← List.map_id r]
      refine List.map_congr_left fun y hy => ?_
      rw [if_neg (fun e => by have := h1 y hy; rw [hx, e] at this; exact nm_irrefl _ this)]; rfl
    · rw [if_neg hx] at h
      have hlt : x.1 < n := h1 _ (look_mem h)
      have ih := upd_pos (f := f) h2 h
      unfold upd at ih
      unfold pos upd
      rw [if_pos hlt, List.map_cons, if_neg hx, ih]
      rfl
theorem Rise.ins {n : Nm} {a : α} : ∀ {l : List (Nm × α)}, Rise l → look n l = none → Rise (ins n a l)
  | [], _, _ => List.pairwise_cons.2 ⟨by simp, List.Pairwise.nil⟩
  | x :: r, hr, h => by
    obtain ⟨h1, h2⟩ := List.pairwise_cons.1 hr
    have hne := look_none.1 h x List.mem_cons_self
    have hnr : look n r = none := look_none.2 (fun y hy => look_none.1 h y (List.mem_cons_of_mem _ hy))
    unfold Disk.ins
    split
    · next hx =>
      refine List.pairwise_cons.2 ⟨fun y hy => ?_, Rise.ins h2 hnr⟩
      rcases mem_ins.1 hy with rfl | hy
      · exact hx
      · exact h1 y hy
    · next hx =>
      have hlt : n < x.1 := by
        rcases nm_total x.1 n with h3 | h3 | h3
        · exact (hx h3).elim
        · exact (hne h3).elim
        · exact h3
      refine List.pairwise_cons.2 ⟨fun y hy => ?_, hr⟩
      rcases List.mem_cons.1 hy with rfl | hy
      · exact hlt
      · exact nm_trans hlt (h1 y hy)
end
end Go.Proofs.Ytiaaadeenbjciaa.Disk

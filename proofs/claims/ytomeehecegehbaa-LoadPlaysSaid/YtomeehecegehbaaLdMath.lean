/- Sums of loads, when one is set anew. -/
import Derived.Test.YtomeehecegehbaaLdUp
namespace Go.Proofs.Ytomeehecegehbaa.Ld
set_option linter.unusedVariables false
def sm (g : Int → Nat) (ss : List Int) : Nat := (ss.map g).sum
theorem s1_sm (f : Int → Pr) (ss : List Int) : s1 f ss = sm (fun k => (f k).1) ss := rfl
theorem s2_sm (f : Int → Pr) (ss : List Int) : s2 f ss = sm (fun k => (f k).2) ss := rfl
theorem sm_cons (g : Int → Nat) (x : Int) (ss : List Int) : sm g (x :: ss) = g x + sm g ss := by simp [sm]
theorem sm_split (g : Int → Nat) (k : Int) : ∀ ss : List Int, ss.Nodup → sm g ss = (if k ∈ ss then g k else 0) + sm g (ss.filter fun x => decide (x ≠ k))
  | [], _ => by simp [sm]
  | x :: ss, h => by
    have h2 := List.nodup_cons.1 h
    have ih := sm_split g k ss h2.2
    by_cases hx : x = k
    · subst hx
      rw [if_pos List.mem_cons_self, List.filter_cons_of_neg (by simp), sm_cons]
      rw [if_neg h2.1] at ih
      omega
    · rw [List.filter_cons_of_pos (by simpa using hx), sm_cons, sm_cons]
      have e : (k ∈ x :: ss) ↔ k ∈ ss := by simp [Ne.symm hx]
      by_cases hk : k ∈ ss
      · rw [if_pos (e.2 hk)]; rw [if_pos hk] at ih; omega
      · rw [if_neg (fun h => hk (e.1 h))]; rw [if_neg hk] at ih; omega
theorem sm_same {g h : Int → Nat} {ss : List Int} (e : ∀ x ∈ ss, g x = h x) : sm g ss = sm h ss := by
  unfold sm; rw [List.map_congr_left e]
theorem sm_perm {g : Int → Nat} {ss tt : List Int} (h : ss.Perm tt) : sm g ss = sm g tt := (h.map _).sum_nat
theorem rest_perm {f : Int → Pr} {k : Int} {p : Pr} {ss tt : List Int} (h : Ks f ss) (h' : Ks (upd f k p) tt) : (tt.filter fun x => decide (x ≠ k)).Perm (ss.filter fun x => decide (x ≠ k)) := by
  refine (List.perm_ext_iff_of_nodup (h'.1.filter _) (h.1.filter _)).2 fun x => ?_
  rw [List.mem_filter, List.mem_filter, h.2, h'.2]
  by_cases hx : x = k
  · simp [hx]
  · rw [upd_other f p hx]
theorem s1_upd {f : Int → Pr} {k : Int} {p : Pr} {ss tt : List Int} (h : Ks f ss) (h' : Ks (upd f k p) tt) : s1 (upd f k p) tt + (f k).1 = s1 f ss + p.1 := by
  rw [s1_sm, s1_sm, sm_split _ k tt h'.1, sm_split _ k ss h.1, sm_perm (rest_perm h h')]
  rw [sm_same (g := fun x => (upd f k p x).1) (h := fun x => (f x).1) (fun x hx => by
    have : x ≠ k := by simpa using (List.mem_filter.1 hx).2
    show (upd f k p x).1 = _
    rw [upd_other f p this])]
  have e1 : (if k ∈ tt then (upd f k p k).1 else 0) = p.1 := by
    rw [upd_same]
    split
    · rfl
    · rename_i hn
      have : ¬ (upd f k p k ≠ (0, 0)) := fun e => hn ((h'.2 k).2 e)
      rw [upd_same] at this
      rw [Classical.not_not.1 this]
  have e2 : (if k ∈ ss then (f k).1 else 0) = (f k).1 := by
    split
    · rfl
    · rename_i hn
      have : ¬ (f k ≠ (0, 0)) := fun e => hn ((h.2 k).2 e)
      rw [Classical.not_not.1 this]
  rw [e1, e2]
  omega
theorem s2_upd {f : Int → Pr} {k : Int} {p : Pr} {ss tt : List Int} (h : Ks f ss) (h' : Ks (upd f k p) tt) : s2 (upd f k p) tt + (f k).2 = s2 f ss + p.2 := by
  rw [s2_sm, s2_sm, sm_split _ k tt h'.1, sm_split _ k ss h.1, sm_perm (rest_perm h h')]
  rw [sm_same (g := fun x => (upd f k p x).2) (h := fun x => (f x).2) (fun x hx => by
    have : x ≠ k := by simpa using (List.mem_filter.1 hx).2
    show (upd f k p x).2 = _
    rw [upd_other f p this])]
  have e1 : (if k ∈ tt then (upd f k p k).2 else 0) = p.2 := by
    rw [upd_same]
    split
    · rfl
    · rename_i hn
      have : ¬ (upd f k p k ≠ (0, 0)) := fun e => hn ((h'.2 k).2 e)
      rw [upd_same] at this
      rw [Classical.not_not.1 this]
  have e2 : (if k ∈ ss then (f k).2 else 0) = (f k).2 := by
    split
    · rfl
    · rename_i hn
      have : ¬ (f k ≠ (0, 0)) := fun e => hn ((h.2 k).2 e)
      rw [Classical.not_not.1 this]
  rw [e1, e2]
  omega
end Go.Proofs.Ytomeehecegehbaa.Ld

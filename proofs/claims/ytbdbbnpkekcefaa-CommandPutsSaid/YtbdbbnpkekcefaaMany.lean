/- Rows of structs: a block as its places' cells one behind the other. -/
import Derived.Test.YtbdbbnpkekcefaaBlk
import Derived.Deep.MidRow
namespace Go.Proofs.Ytbdbbnpkekcefaa.Mem
open Go.RowKit
set_option linter.unusedVariables false
set_option linter.unusedSimpArgs false
theorem flat_length {α : Type} {f : α → List Value} {k : Nat} (hf : ∀ x, (f x).length = k) : ∀ l : List α, (l.flatMap f).length = l.length * k
  | [] => by simp
  | x :: r => by
    rw [List.flatMap_cons, List.length_append, hf, flat_length hf r, List.length_cons, Nat.add_mul]
    omega
theorem flat_get {α : Type} {f : α → List Value} {k : Nat} (hf : ∀ x, (f x).length = k) : ∀ {l : List α} {i j : Nat} {x : α}, l[i]? = some x → j < k → (l.flatMap f)[i * k + j]? = (f x)[j]?
  | [], i, j, x, h, _ => by simp at h
  | y :: r, i, j, x, h, hj => by
    rw [List.flatMap_cons]
    cases i with
    | zero =>
      simp at h
      subst h
      rw [Nat.zero_mul, Nat.zero_add, List.getElem?_append_left (by rw [hf]; exact hj)]
    | succ i =>
      have ih := flat_get hf (l := r) (i := i) (j := j) (x := x) (by simpa using h) hj
      rw [List.getElem?_append_right (by rw [hf, Nat.add_mul]; omega), hf, Nat.add_mul, show i * k + 1 * k + j - k = i * k + j by omega]
      exact ih
theorem blk_setCells {g : Nat} {t : TypeId} : ∀ {vs A B C : List Value} {w : World}, Blk w g t (A ++ B ++ C).toArray → B.length = vs.length → Blk (w.setCells g A.length vs) g t (A ++ vs ++ C).toArray
  | [], A, B, C, w, h, hl => by
    have : B = [] := List.eq_nil_of_length_eq_zero (by simpa using hl)
    subst this
    exact h
  | v :: vs, A, [], C, w, h, hl => by simp at hl
  | v :: vs, A, b :: B, C, w, h, hl => by
    rw [World.setCells]
    have h1 := h.set_ A.length v
    have e : ((A ++ b :: B ++ C).toArray.setIfInBounds A.length v) = ((A ++ [v]) ++ B ++ C).toArray := by
      simp [List.append_assoc]
    rw [e] at h1
    have := blk_setCells (vs := vs) (A := A ++ [v]) (B := B) (C := C) h1 (by simpa using hl)
    simpa [List.append_assoc] using this
theorem but_setCells (g : Nat) : ∀ (vs : List Value) (o : Nat) (w : World), But (fun k => k = g) w (w.setCells g o vs)
  | [], o, w => But.refl _ w
  | v :: vs, o, w => by
    rw [World.setCells]
    exact ((But.refl (fun k => k = g) w).setCell (p := ⟨g, o, none⟩) rfl v).trans' (but_setCells g vs (o + 1) _)
theorem flat_split {α : Type} {f : α → List Value} {l : List α} {i : Nat} {x : α} (h : l[i]? = some x) : l.flatMap f = (l.take i).flatMap f ++ f x ++ (l.drop (i + 1)).flatMap f := by
  obtain ⟨hi, rfl⟩ := List.getElem?_eq_some_iff.1 h
  have e : l = l.take i ++ l[i] :: l.drop (i + 1) := by rw [← List.drop_eq_getElem_cons hi, List.take_append_drop]
  have e2 := congrArg (fun l => l.flatMap f) e
  simp only [List.flatMap_append, List.flatMap_cons] at e2
  rw [List.append_assoc]
  exact e2
theorem flat_set {α : Type} {f : α → List Value} {l : List α} {i : Nat} (y : α) (hi : i < l.length) : (l.set i y).flatMap f = (l.take i).flatMap f ++ f y ++ (l.drop (i + 1)).flatMap f := by
  have e : l.set i y = l.take i ++ y :: l.drop (i + 1) := List.set_eq_take_append_cons_drop.trans (by rw [if_pos hi])
  rw [e]
  simp [List.flatMap_append, List.append_assoc]
theorem blk_put {α : Type} {f : α → List Value} {k : Nat} (hf : ∀ x, (f x).length = k) {w : World} {g : Nat} {t : TypeId} {l : List α} {i : Nat} (h : Blk w g t (l.flatMap f).toArray) (hi : i < l.length) (y : α) : Blk (w.setCells g (i * k) (f y)) g t ((l.set i y).flatMap f).toArray := by
  have hx : l[i]? = some l[i] := List.getElem?_eq_getElem hi
  rw [flat_split hx] at h
  have := blk_setCells (vs := f y) h (by rw [hf, hf])
  rw [flat_length hf, List.length_take, Nat.min_eq_left (by omega)] at this
  rw [flat_set y hi]
  exact this
theorem blk_range {α : Type} {f : α → List Value} {k : Nat} (hf : ∀ x, (f x).length = k) {w : World} {g : Nat} {t : TypeId} {l : List α} {i : Nat} {x : α} (h : Blk w g t (l.flatMap f).toArray) (hi : l[i]? = some x) : w.rangeAt g (i * k) (f x) := by
  intro j v hv
  have hj : j < k := by rw [← hf x]; exact (List.getElem?_eq_some_iff.1 hv).1
  rw [h.cell, List.getElem?_toArray, flat_get hf hi hj]
  exact hv
theorem blk_there {α : Type} {f : α → List Value} {k : Nat} (hf : ∀ x, (f x).length = k) {w : World} {g : Nat} {t : TypeId} {l : List α} {i : Nat} (h : Blk w g t (l.flatMap f).toArray) (hi : i < l.length) : w.there g (i * k) k := by
  intro j hj
  refine ⟨?_, h.frozen _⟩
  have := (blk_range hf h (List.getElem?_eq_getElem hi)).isSome j (by rw [hf]; exact hj)
  exact this
theorem blk_there0 {w : World} {g n : Nat} {t : TypeId} {cs : List Value} (h : Blk w g t cs.toArray) (hn : cs.length = n) : w.there g 0 n := by
  intro j hj
  refine ⟨?_, h.frozen _⟩
  rw [h.cell, List.getElem?_toArray, Nat.zero_add, List.getElem?_eq_getElem (by omega)]
  rfl
theorem blk_set0 {w : World} {g : Nat} {t : TypeId} {cs vs : List Value} (h : Blk w g t cs.toArray) (hl : cs.length = vs.length) : Blk (w.setCells g 0 vs) g t vs.toArray := by
  have := blk_setCells (vs := vs) (A := []) (B := cs) (C := []) (w := w) (g := g) (t := t) (by simpa using h) hl
  simpa using this
theorem blk_range0 {w : World} {g : Nat} {t : TypeId} {A B : List Value} (h : Blk w g t (A ++ B).toArray) : w.rangeAt g A.length B := by
  intro j v hv
  rw [h.cell, List.getElem?_toArray, List.getElem?_append_right (by omega), Nat.add_sub_cancel_left]
  exact hv
end Go.Proofs.Ytbdbbnpkekcefaa.Mem

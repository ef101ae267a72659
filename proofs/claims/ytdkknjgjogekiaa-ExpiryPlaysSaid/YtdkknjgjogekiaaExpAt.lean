/- Rows of items in memory, the program's heap, and how its methods are reached through the library's interface. -/
import Derived.Test.YtdkknjgjogekiaaExpHeap
import Derived.Test.YtdkknjgjogekiaaBlk
import Derived.Test.YtdkknjgjogekiaaLate
import Derived.WalkKit
import Derived.Deep.QuietTactic
import Derived.BigQuiet
import Derived.Deep.MidRow
import Derived.Lib.Hide
namespace Go.Proofs.Ytdkknjgjogekiaa.Exp
open Go.Proofs.Ytdkknjgjogekiaa.Mem
open Go.ChangeShapes Go.WideShapes Go.ChangeAt Go.RowKit
set_option linter.unusedVariables false
set_option linter.unusedSimpArgs false
theorem flat_length {α : Type} {f : α → List Value} {k : Nat} (hf : ∀ x, (f x).length = k) : ∀ l : List α, (l.flatMap f).length = l.length * k
  | [] => by simp
  | x :: r => by
    rw [List.flatMap_cons, List.length_append, hf, flat_length hf r, List.length_cons, Nat.add_mul]
    omega
theorem flat_get {α : Type} {f : α → List Value} {k : Nat} (hf : ∀ x, (f x).length = k) : ∀ {l : List α} {i j : Nat} {x : α}, l[i]? = some x → j < k → (l.flatMap f)[i * k + j]? = (f x)[j]?
  | [], i, j, x, h, _ => by simp at h
  | y :: r, i, j, x, h, hj => by
    rw [List.flatMap_cons]
    cases i with
    | zero =>
      simp at h
      subst h
      rw [Nat.zero_mul, Nat.zero_add, List.getElem?_append_left (by rw [hf]; exact hj)]
    | succ i =>
      have ih := flat_get hf (l := r) (i := i) (j := j) (x := x) (by simpa using h) hj
      rw [List.getElem?_append_right (by rw [hf, Nat.add_mul]; omega), hf, Nat.add_mul, show i * k + 1 * k + j - k = i * k + j by omega]
      exact ih
theorem blk_setCells {g : Nat} {t : TypeId} : ∀ {vs A B C : List Value} {w : World}, Blk w g t (A ++ B ++ C).toArray → B.length = vs.length → Blk (w.setCells g A.length vs) g t (A ++ vs ++ C).toArray
  | [], A, B, C, w, h, hl => by
    have : B = [] := List.eq_nil_of_length_eq_zero (by simpa using hl)
    subst this
    exact h
  | v :: vs, A, [], C, w, h, hl => by simp at hl
  | v :: vs, A, b :: B, C, w, h, hl => by
    rw [World.setCells]
    have h1 := h.set_ A.length v
    have e : ((A ++ b :: B ++ C).toArray.setIfInBounds A.length v) = ((A ++ [v]) ++ B ++ C).toArray := by
      simp [List.append_assoc]
    rw [e] at h1
    have := blk_setCells (vs := vs) (A := A ++ [v]) (B := B) (C := C) h1 (by simpa using hl)
    simpa [List.append_assoc] using this
theorem but_setCells (g : Nat) : ∀ (vs : List Value) (o : Nat) (w : World), But (fun k => k = g) w (w.setCells g o vs)
  | [], o, w => But.refl _ w
  | v :: vs, o, w => by
    rw [World.setCells]
    exact ((But.refl (fun k => k = g) w).setCell (p := ⟨g, o, none⟩) rfl v).trans' (but_setCells g vs (o + 1) _)
theorem flat_split {α : Type} {f : α → List Value} {l : List α} {i : Nat} {x : α} (h : l[i]? = some x) : l.flatMap f = (l.take i).flatMap f ++ f x ++ (l.drop (i + 1)).flatMap f := by
  obtain ⟨hi, rfl⟩ := List.getElem?_eq_some_iff.1 h
  have e : l = l.take i ++ l[i] :: l.drop (i + 1) := by rw [← List.drop_eq_getElem_cons hi, List.take_append_drop]
  have e2 := congrArg (fun l => l.flatMap f) e
  simp only [List.flatMap_append, List.flatMap_cons] at e2
  rw [List.append_assoc]
  exact e2
theorem flat_set {α : Type} {f : α → List Value} {l : List α} {i : Nat} (y : α) (hi : i < l.length) : (l.set i y).flatMap f = (l.take i).flatMap f ++ f y ++ (l.drop (i + 1)).flatMap f := by
  have e : l.set i y = l.take i ++ y :: l.drop (i + 1) := List.set_eq_take_append_cons_drop.trans (by rw [if_pos hi])
  rw [e]
  simp [List.flatMap_append, List.append_assoc]
/- Items' cells; a row of items, and what lies behind it in its block. -/
def icells (x : It) : List Value := [.int .u64 (x.time : Int), .string x.key]
theorem icells_length (x : It) : (icells x).length = 2 := rfl
theorem icells_one (x : It) : ∀ v ∈ icells x, v.oneCell' = true := by
  intro v hv
  simp only [icells, List.mem_cons, List.not_mem_nil, or_false] at hv
  rcases hv with rfl | rfl <;> rfl
def rowI (l : List It) : List Value := l.flatMap icells
theorem rowI_length (l : List It) : (rowI l).length = l.length * 2 := flat_length icells_length l
theorem look_some {l : List It} {i : Nat} (h : i < l.length) : l[i]? = some (look l i) := by simp [look, List.getD, h]
theorem item_info : (Try.prog.info? 29).map (fun i => (i.zero, i.size, i.bytes)) = some (some (.agg (icells nil).toArray), 2, 24) := by kernel_rfl
theorem item_size : (Try.prog.info? 29).map (·.size) = some 2 := by kernel_rfl
structure IRow (w : World) (t : TypeId) (g : Nat) (l : List It) (rest : List Value) : Prop where
  blk : Blk w g t (rowI l ++ rest).toArray
section
variable {w w' : World} {t : TypeId} {g : Nat} {l : List It} {rest : List Value}
theorem IRow.range (h : IRow w t g l rest) {i : Nat} (hi : i < l.length) : w.rangeAt g (i * 2) (icells (look l i)) := by
  intro j v hv
  have hj : j < 2 := by rw [← icells_length (look l i)]; exact (List.getElem?_eq_some_iff.1 hv).1
  rw [h.blk.cell, List.getElem?_toArray, List.getElem?_append_left (by rw [rowI_length]; omega)]
  unfold rowI
  rw [flat_get icells_length (look_some hi) hj]
  exact hv
theorem IRow.cells (h : IRow w t g l rest) {i : Nat} (hi : i < l.length) : w.cell? ⟨g, i * 2, none⟩ = some (.int .u64 ((look l i).time : Int)) ∧ w.cell? ⟨g, i * 2 + 1, none⟩ = some (.string (look l i).key) :=
  ⟨h.range hi 0 _ rfl, h.range hi 1 _ rfl⟩
theorem IRow.there (h : IRow w t g l rest) {i : Nat} (hi : i < l.length) : w.there g (i * 2) 2 := by
  intro j hj
  refine ⟨?_, h.blk.frozen _⟩
  exact (h.range hi).isSome j (by rw [icells_length]; exact hj)
theorem IRow.put (h : IRow w t g l rest) {i : Nat} (hi : i < l.length) (y : It) : IRow (w.setCells g (i * 2) (icells y)) t g (l.set i y) rest := by
  refine ⟨?_⟩
  have h1 := h.blk
  unfold rowI at h1 ⊢
  rw [flat_split (look_some hi), List.append_assoc] at h1
  have := blk_setCells (vs := icells y) h1 (by rw [icells_length, icells_length])
  rw [flat_length icells_length, List.length_take, Nat.min_eq_left (by omega)] at this
  rw [flat_set y hi, List.append_assoc]
  exact this
theorem IRow.but {F : Nat → Prop} (h : IRow w t g l rest) (hb : But F w w') (h1 : ¬ F g) : IRow w' t g l rest := ⟨h.blk.but hb h1⟩
theorem IRow.drewN (h : IRow w t g l rest) (q : Nat) : IRow (w.drewN q) t g l rest := ⟨h.blk⟩
end
/- The heap: its block p, its places v. -/
structure HAt (w : World) (B p : Nat) (v : Value) (l : List It) : Prop where
  blk : Blk w p 47 #[v]
  own : w.ownsRow B 29 2 v l.length (rowI l)
  base : B ≤ p
  few : l.length ≤ 1000
def Foot (p : Nat) (v : Value) (k : Nat) : Prop := k = p ∨ some k = v.ownBlock
def Next (w : World) (v v' : Value) : Prop := v'.ownBlock = v.ownBlock ∨ ∀ k, v'.ownBlock = some k → w.heap.size ≤ k
section
variable {w w' w'' : World} {B p : Nat} {v v' v'' : Value} {l : List It}
theorem HAt.but {F : Nat → Prop} (h : HAt w B p v l) (hb : But F w w') (h1 : ¬ F p) (h2 : ∀ k, v.ownBlock = some k → ¬ F k) : HAt w' B p v l :=
  ⟨h.blk.but hb h1, ownsRow_but h.own hb h2, h.base, h.few⟩
theorem HAt.new (h : HAt w B p v l) (hb : But (fun _ => False) w w') : HAt w' B p v l := h.but hb (fun h => h) (fun _ _ h => h)
theorem HAt.row (h : HAt w B p v l) (hl : 0 < l.length) : ∃ g cap rest, v = .slice (some ⟨g, 0, none⟩) l.length cap ∧ l.length ≤ cap ∧ cap ≤ maxLen ∧ B ≤ g ∧ rest.length = (cap - l.length) * 2 ∧ IRow w 29 g l rest := by
  rcases h.own.2 with ⟨_, h2⟩ | ⟨g, cap, cur, h1, h2, h3, h4, h5, h6, h7⟩
  · omega
  · refine ⟨g, cap, cur.toList.drop (l.length * 2), h1, h4, h5, h2, ?_, ⟨?_⟩⟩
    · rw [List.length_drop, Array.length_toList, h6, Nat.sub_mul]
    · show w.heap[g]? = _
      rw [← h7, List.take_append_drop, Array.toArray_toList]
      exact h3
theorem HAt.shape (h : HAt w B p v l) : ∃ a cap, v = .slice a l.length cap := by
  rcases h.own.2 with ⟨h1, h2⟩ | ⟨g, cap, cur, h1, _⟩
  · exact ⟨none, 0, by rw [h1, h2]⟩
  · exact ⟨_, _, h1⟩
theorem HAt.lt (h : HAt w B p v l) : p < w.heap.size ∧ ∀ k, v.ownBlock = some k → B ≤ k ∧ k < w.heap.size ∧ k ≠ p := by
  refine ⟨h.blk.lt, fun k hk => ⟨(h.own.lt k hk).1, (h.own.lt k hk).2, fun e => ?_⟩⟩
  exact own_blk_ne h.own h.blk (by decide) (by rw [hk, e])
theorem own_of_row {g cap : Nat} {rest : List Value} (h : IRow w 29 g l rest) (hB : B ≤ g) (hc : l.length ≤ cap) (hm : cap ≤ maxLen) (hr : rest.length = (cap - l.length) * 2) :
    w.ownsRow B 29 2 (.slice (some ⟨g, 0, none⟩) l.length cap) l.length (rowI l) := by
  refine ⟨rowI_length l, .inr ⟨g, cap, _, rfl, hB, h.blk, hc, hm, ?_, ?_⟩⟩
  · rw [List.size_toArray, List.length_append, rowI_length, hr, ← Nat.add_mul]
    congr 1
    omega
  · rw [List.toList_toArray, List.take_append_of_le_length (by rw [rowI_length]; exact Nat.le_refl _), List.take_of_length_le (by rw [rowI_length]; exact Nat.le_refl _)]
theorem Next.refl (w : World) (v : Value) : Next w v v := .inl rfl
theorem Next.trans (h : Next w v v') (hs : w.heap.size ≤ w'.heap.size) (k : Next w' v' v'') : Next w v v'' := by
  rcases k with k | k
  · rcases h with h | h
    · exact .inl (k.trans h)
    · exact .inr (fun j hj => h j (by rw [← k]; exact hj))
  · exact .inr (fun j hj => Nat.le_trans hs (k j hj))
/- One turn of the heap behind another. -/
theorem foot_trans (h : But (Foot p v) w w') (n : Next w v v') (k : But (Foot p v') w' w'') : But (Foot p v) w w'' := h.trans k (fun i hi hf => by
  rcases hf with e | e
  · exact .inl e
  · rcases n with n | n
    · exact .inr (e.trans n)
    · have := n i e.symm
      omega)
end
/- The library's calls of the heap's methods. -/
theorem m_len {w : World} {p : Nat} {v : Value} (h : w.cell? ⟨p, 0, none⟩ = some v) : Sem.run Try.prog (method (Try.prog.types.size + 100) 49 (.pointer (some ⟨p, 0, none⟩)) "Len") w = .ok (37, v) w := by
  have e : Sem.run Try.prog (method (Try.prog.types.size + 100) 49 (.pointer (some ⟨p, 0, none⟩)) "Len") w = Sem.run Try.prog (load ⟨p, 0, none⟩ >>= fun x => pure (37, x)) w := by kernel_rfl
  rw [e, Sem.run_bind]
  simp [h]
theorem m_less {w : World} {p : Nat} {v : Value} (h : w.cell? ⟨p, 0, none⟩ = some v) : Sem.run Try.prog (method (Try.prog.types.size + 100) 49 (.pointer (some ⟨p, 0, none⟩)) "Less") w = .ok (38, v) w := by
  have e : Sem.run Try.prog (method (Try.prog.types.size + 100) 49 (.pointer (some ⟨p, 0, none⟩)) "Less") w = Sem.run Try.prog (load ⟨p, 0, none⟩ >>= fun x => pure (38, x)) w := by kernel_rfl
  rw [e, Sem.run_bind]
  simp [h]
theorem m_swap {w : World} {p : Nat} {v : Value} (h : w.cell? ⟨p, 0, none⟩ = some v) : Sem.run Try.prog (method (Try.prog.types.size + 100) 49 (.pointer (some ⟨p, 0, none⟩)) "Swap") w = .ok (39, v) w := by
  have e : Sem.run Try.prog (method (Try.prog.types.size + 100) 49 (.pointer (some ⟨p, 0, none⟩)) "Swap") w = Sem.run Try.prog (load ⟨p, 0, none⟩ >>= fun x => pure (39, x)) w := by kernel_rfl
  rw [e, Sem.run_bind]
  simp [h]
theorem m_push (w : World) (x : Value) : Sem.run Try.prog (method (Try.prog.types.size + 100) 49 x "Push") w = .ok (41, x) w := by kernel_rfl
theorem m_pop (w : World) (x : Value) : Sem.run Try.prog (method (Try.prog.types.size + 100) 49 x "Pop") w = .ok (40, x) w := by kernel_rfl
end Go.Proofs.Ytdkknjgjogekiaa.Exp

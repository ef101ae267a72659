/- A record in a block of its own, beside a row that is appended to. -/
import Derived.Test.YtgfhcbdhggnbaaaRecEq
import Derived.Below
import Derived.Outline
import Derived.WalkSpells
import Derived.WalkLawsBesides
import Derived.LoopTactic
import Derived.Lib.Hide
import Derived.WalkMore
import Derived.Deep.QuietTactic
import Derived.BigQuiet
import Derived.Laws.Rows
namespace Go.Proofs.Ytgfhcbdhggnbaaa.Rec
open Go.Proofs.Ytgfhcbdhggnbaaa.Mem Go.Proofs.Ytgfhcbdhggnbaaa.Pack
open Go.ChangeShapes Go.WideShapes Go.ChangeAt Go.RowKit
set_option linter.unusedVariables false

theorem rec_size : (Try.prog.info? 56).map (·.size) = some 14 := by kernel_rfl
theorem heap3 (w : World) (A B C : Obj) : (((w.alloc A).alloc B).alloc C).heap[w.heap.size + 1]? = some B := by
  show (((w.heap.push A).push B).push C)[w.heap.size + 1]? = some B
  rw [Array.getElem?_push, if_neg (by simp), Array.getElem?_push, if_pos (by simp)]
theorem below3 (w : World) (A B C : Obj) : Below w.heap.size w (((w.alloc A).alloc B).alloc C) :=
  (((Below.refl _ w).alloc (Nat.le_refl _) A).alloc (by simp) B).alloc (by simp; omega) C
theorem heap_new (w : World) (A : Obj) : (w.alloc A).heap[w.heap.size]? = some A := by
  show (w.heap.push A)[w.heap.size]? = some A
  simp
/- A block that is known whole. -/
def Box (w : World) (B : Nat) (cs : Array Value) : Prop := w.heap[B]? = some (.cells cs 56 (0, 0))
theorem Box.lt {w : World} {B : Nat} {cs : Array Value} (h : Box w B cs) : B < w.heap.size := by
  rcases Nat.lt_or_ge B w.heap.size with h1 | h1
  · exact h1
  · rw [Box, Array.getElem?_eq_none h1] at h; cases h
theorem Box.cell {w : World} {B : Nat} {cs : Array Value} (h : Box w B cs) (i : Nat) {u : Value} (hu : cs[i]? = some u) : w.cell? ⟨B, i, none⟩ = some u := by
  unfold Box at h
  simp [World.cell?, h, hu]
theorem Box.but {S : Nat → Prop} {w w' : World} {B : Nat} {cs : Array Value} (h : Box w B cs) (hb : But S w w') (hs : ¬ S B) : Box w' B cs := (hb.block B h.lt hs).trans h
theorem own_ne_box {w : World} {base : Nat} {v : Value} {n B : Nat} {xs : List Value} {cs : Array Value} (h : w.ownsRow base 5 1 v n xs) (hB : Box w B cs) : v.ownBlock ≠ some B := by
  intro e
  rcases h.2 with ⟨hv, _⟩ | ⟨g, cap, cur, hv, hg, hh, r⟩
  · rw [hv] at e; cases e
  · rw [hv] at e
    have e2 : g = B := Option.some.inj e
    subst e2
    unfold Box at hB
    rw [hh] at hB
    simp at hB
/- A row that is appended to, a record's block beside it. -/
structure Going (w0 : World) (base B : Nat) (cs : Array Value) (w : World) (v : Value) (len : Nat) (xs : List Int) : Prop where
  own : w.ownsRow base 5 1 v len (cellsOf xs)
  box : Box w B cs
  below : Below base w0 w
  size : base ≤ w.heap.size
theorem Going.step {w0 : World} {base B : Nat} {cs : Array Value} {w w' : World} {v v' : Value} {len len' : Nat} {xs ys : List Int} (h : Going w0 base B cs w v len xs) (ho : w'.ownsRow base 5 1 v' len' (cellsOf ys)) (hg : w.grownBy w' v.ownBlock) : Going w0 base B cs w' v' len' ys :=
  ⟨ho, h.box.but (But.of_grown hg) (fun e => own_ne_box h.own h.box e.symm), h.below.grown hg h.size (fun k hk => (h.own.lt k hk).1), Nat.le_trans h.size hg.size⟩
theorem Going.start {base : Nat} {w : World} {v : Value} {len : Nat} {xs : List Int} (cs : Array Value) (h : w.ownsRow base 5 1 v len (cellsOf xs)) (hb : base ≤ w.heap.size) : Going w base w.heap.size cs (w.alloc (.cells cs 56)) v len xs :=
  ⟨ownsRow_alloc h _, heap_new _ _, (Below.refl _ _).alloc hb _, by simp; omega⟩
theorem sees_two (w : World) (u1 u2 : Value) (e : TypeId) (fr : Nat × Nat) (g : Nat) (hg : g = w.heap.size) : Sees (w.alloc (.cells #[u1, u2] e fr)) 1 (.slice (some ⟨g, 0, none⟩) 2 2) 2 [u1, u2] := by
  subst hg
  refine .inr ⟨_, _, rfl, rfl, fun j x hx => ?_⟩
  refine ⟨by simp, ?_⟩
  rw [add_none, Nat.zero_add, World.cell?_alloc_mark]
  simpa using hx
theorem Going.stepped {w0 : World} {base B : Nat} {cs : Array Value} {w w' : World} {v v' : Value} {len len' : Nat} {xs ys : List Int} {o : Obj} (h : Going w0 base B cs w v len xs) (ho : w'.ownsRow base 5 1 v' len' (cellsOf ys)) (hon : Onto (w.alloc o) w' v v') : Going w0 base B cs w' v' len' ys :=
  h.step ho (hon.of_alloc (fun k hk => (h.own.lt k hk).2)).grown
theorem put_one (n : Nat) (h : n < 256) : put n 1 = [(n : Int)] := by
  show [((n % 256 : Nat) : Int)] = _
  rw [Nat.mod_eq_of_lt h]
end Go.Proofs.Ytgfhcbdhggnbaaa.Rec

/- A reader, and beside it two blocks: what is read is stored into the one, and at the end all of it into the other. -/
import Derived.Test.YtgfhcbdhggnbaaaRecRead
import Derived.Test.YtgfhcbdhggnbaaaRecHeap
import Derived.Test.YtgfhcbdhggnbaaaBlk
import Derived.Great.BuildSlice
import Derived.Laws.Tables
namespace Go.Proofs.Ytgfhcbdhggnbaaa.Rec
open Go.Proofs.Ytgfhcbdhggnbaaa.Mem Go.Proofs.Ytgfhcbdhggnbaaa.Pack
open Go.ChangeShapes Go.WideShapes Go.ChangeAt Go.RowKit
set_option linter.unusedVariables false
set_option linter.unusedSimpArgs false

/- A reader that bears changes of blocks from lo on. -/
def Keeps (RD : World → Pos → Prop) (lo : Nat) : Prop := ∀ w w' Q, RD w Q → But (fun k => lo ≤ k) w w' → RD w' Q
structure Rdg (RD : World → Pos → Prop) (S : Nat → Prop) (t : TypeId) (R B : Nat) (zs : Array Value) (w0 w : World) (P : Pos) (cs : Array Value) : Prop where
  rd : RD w P
  res : Blk w R t zs
  box : Blk w B t cs
  but : But S w0 w
  lowR : w0.heap.size ≤ R
  lowB : w0.heap.size ≤ B
  ne : R ≠ B
section
variable {RD : World → Pos → Prop} {S : Nat → Prop} {t : TypeId} {R B : Nat} {zs cs cs' : Array Value} {w0 w w' : World} {P P' : Pos}
theorem Rdg.read (h : Rdg RD S t R B zs w0 w P cs) (hS : ∀ k, S k → k < w0.heap.size) (hr : RD w' P') (hb : But S w w') : Rdg RD S t R B zs w0 w' P' cs :=
  ⟨hr, h.res.but hb (fun e => by have := hS _ e; have := h.lowR; omega), h.box.but hb (fun e => by have := hS _ e; have := h.lowB; omega), h.but.trans' hb, h.lowR, h.lowB, h.ne⟩
theorem Rdg.set (h : Rdg RD S t R B zs w0 w P cs) (fr : Keeps RD w0.heap.size) (i : Nat) (u : Value) (hcs : cs.setIfInBounds i u = cs') : Rdg RD S t R B zs w0 (w.setCell ⟨B, i, none⟩ u) P cs' := by
  have k : But (fun k => k = B) w (w.setCell ⟨B, i, none⟩ u) := (But.refl (fun k => k = B) w).setCell (p := ⟨B, i, none⟩) rfl u
  have hB := h.lowB
  refine ⟨fr _ _ _ h.rd (k.mono (fun j _ e => by omega)), h.res.but k h.ne, hcs ▸ h.box.set_ i u, h.but.trans k (fun j hj e => by omega), h.lowR, h.lowB, h.ne⟩
theorem Rdg.cell (h : Rdg RD S t R B zs w0 w P cs) (i : Nat) {u : Value} (hu : cs[i]? = some u) : w.cell? ⟨B, i, none⟩ = some u := (h.box.cell i).trans hu
theorem Rdg.frozen (h : Rdg RD S t R B zs w0 w P cs) (i : Nat) : w.frozen? ⟨B, i, none⟩ = false := h.box.frozen i
theorem Rdg.start (fr : Keeps RD w0.heap.size) (h : RD w0 P) (cs : Array Value) : Rdg RD S t w0.heap.size (w0.heap.size + 1) cs w0 ((w0.alloc (.cells cs t)).alloc (.cells cs t)) P cs := by
  have k : But (fun _ => False) w0 ((w0.alloc (.cells cs t)).alloc (.cells cs t)) := ((But.refl _ w0).alloc _).alloc _
  obtain ⟨h1, h2⟩ := Blk.two w0 cs cs t t
  exact ⟨fr _ _ _ h (k.mono (fun _ _ e => e.elim)), h1, h2, k.mono (fun _ _ e => e.elim), Nat.le_refl _, by omega, by omega⟩
theorem Rdg.last (h : Rdg RD S t R B zs w0 w P cs) (fr : Keeps RD w0.heap.size) (cs' : Array Value) : RD (w.setRow R cs') P ∧ But S w0 (w.setRow R cs') := by
  have k : But (fun k => k = R) w (w.setRow R cs') := but_setRow (fun k => k = R) (But.refl _ w) (.inl rfl) cs'
  have hR := h.lowR
  exact ⟨fr _ _ _ h.rd (k.mono (fun j _ e => by omega)), but_setRow S h.but (.inr h.lowR) cs'⟩
end
theorem pos_num_lt {P : Pos} (h : Bytes P.zs) (k m : Nat) (hk : 256 ^ k = m) : P.num k < m := by
  have h1 := num_lt (got_bytes h k)
  have h2 : 256 ^ (got P.zs k).length ≤ 256 ^ k := pow256_le (got_length_le P.zs k)
  rw [← hk]
  exact Nat.lt_of_lt_of_le h1 h2
theorem num1_lt {P : Pos} (h : Bytes P.zs) : P.num 1 < 256 := pos_num_lt h 1 _ (by decide)
theorem num4_lt {P : Pos} (h : Bytes P.zs) : P.num 4 < 4294967296 := pos_num_lt h 4 _ (by decide)
theorem num8_lt {P : Pos} (h : Bytes P.zs) : P.num 8 < 18446744073709551616 := pos_num_lt h 8 _ (by decide)
/- The program's reader, and the document's. -/
def RdP (p D : Nat) (w : World) (P : Pos) : Prop := Rd w p D P.zs P.short
def RfP (q bd : Nat) (w : World) (P : Pos) : Prop := Rf w q bd P.zs P.short
theorem rdP_keeps {p D lo : Nat} (hp : p < lo) (hD : D < lo) : Keeps (RdP p D) lo := fun w w' Q h hb => Rd.but (S := fun k => lo ≤ k) h hb (by omega) (by omega)
theorem rfP_keeps {q bd lo : Nat} (hq : q < lo) (hbd : bd ≤ lo) : Keeps (RfP q bd) lo := fun w w' Q h hb => Rf.but (S := fun k => lo ≤ k) h hb (by omega) (fun k hk => by omega)
theorem rdP_number (p D : Nat) (P : Pos) (k : Nat) (h1 : 1 ≤ k) (h8 : k ≤ 8) (w : World) (h : RdP p D w P) :
    Calls Try.prog 31 #[.pointer (some ⟨p, 0, none⟩), .int .i64 (k : Int)] w fun e w' => e = .returned (.int .u64 ((P.num k : Nat) : Int)) ∧ RdP p D w' (P.skip k) ∧ But (fun b => b = p) w w' := number_any p P.zs P.short k h1 h8 w h
theorem rdP_text (p D : Nat) (P : Pos) (w : World) (h : RdP p D w P) :
    Calls Try.prog 46 #[.pointer (some ⟨p, 0, none⟩)] w fun e w' => e = .returned (.string P.txt) ∧ RdP p D w' P.past ∧ But (fun b => b = p) w w' := text_any p P.zs P.short w h
theorem rfP_number (q bd : Nat) (P : Pos) (k : Nat) (h1 : 1 ≤ k) (h8 : k ≤ 8) (w : World) (h : RfP q bd w P) :
    Calls Try.prog 24 #[.pointer (some ⟨q, 0, none⟩), .int .i64 (k : Int)] w fun e w' => e = .returned (.int .u64 ((P.num k : Nat) : Int)) ∧ RfP q bd w' (P.skip k) ∧ But (fun b => b = q) w w' := refNumber_any q P.zs P.short k h1 h8 w h
theorem rfP_text (q bd : Nat) (P : Pos) (hz : Bytes P.zs) (w : World) (h : RfP q bd w P) :
    Calls Try.prog 39 #[.pointer (some ⟨q, 0, none⟩)] w fun e w' => e = .returned (.string P.txt) ∧ RfP q bd w' P.past ∧ But (fun b => b = q) w w' := refText_read q P.zs P.short w h hz
end Go.Proofs.Ytgfhcbdhggnbaaa.Rec

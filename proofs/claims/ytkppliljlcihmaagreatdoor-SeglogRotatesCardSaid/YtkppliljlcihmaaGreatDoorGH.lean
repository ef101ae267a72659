/- In one text: A block that is known whole. What bytes are read as: a record at the front, and all of them. A reader, and beside it two blocks: what is read is stored into the one, and at the end all of it into the other. -/
import Derived.Test.YtkppliljlcihmaaGreatDoorGA
import Derived.Laws.Rows
import Derived.Laws.CopyOwn
import Derived.Test.YtkppliljlcihmaaGreatDoorGC
import Derived.RowKit
import Derived.Great.BuildSlice
import Derived.Laws.Tables
namespace Go.Proofs.YtkppliljlcihmaaGreatDoor.Mem
open Go.RowKit
set_option linter.unusedVariables false
def Blk (w : World) (g : Nat) (t : TypeId) (cs : Array Value) : Prop := w.heap[g]? = some (.cells cs t (0, 0))
section
variable {w w' : World} {g : Nat} {t : TypeId} {cs : Array Value}
theorem Blk.lt (h : Blk w g t cs) : g < w.heap.size := (Array.getElem?_eq_some_iff.1 (show w.heap[g]? = some _ from h)).1
theorem Blk.cell (h : Blk w g t cs) (i : Nat) : w.cell? ⟨g, i, none⟩ = cs[i]? := cell_of_row _ _ i _ _ _ h
theorem Blk.frozen (h : Blk w g t cs) (i : Nat) : w.frozen? ⟨g, i, none⟩ = false := by
  have e : w.heap[g]? = some (.cells cs t (0, 0)) := h
  simp [World.frozen?, e]
theorem Blk.new (w : World) (t : TypeId) (cs : Array Value) : Blk (w.alloc (.cells cs t)) w.heap.size t cs := by
  show (w.alloc _).heap[_]? = _
  exact heap_alloc_new w _
theorem Blk.set_ (h : Blk w g t cs) (i : Nat) (u : Value) : Blk (w.setCell ⟨g, i, none⟩ u) g t (cs.setIfInBounds i u) := by
  have e : w.heap[g]? = some (.cells cs t (0, 0)) := h
  show (w.setCell _ _).heap[g]? = _
  simp [World.setCell, Array.getElem?_modify, e]
theorem Blk.but {T : Nat → Prop} (h : Blk w g t cs) (hb : But T w w') (hg : ¬ T g) : Blk w' g t cs := by
  show w'.heap[g]? = _
  rw [hb.block g h.lt hg]; exact h
/- Rows of two element types are two blocks. -/
theorem Blk.ne_ {g' : Nat} {t' : TypeId} {cs' : Array Value} (h : Blk w g t cs) (h' : Blk w g' t' cs') (hne : t ≠ t') : g ≠ g' := by
  intro e
  have e1 : w.heap[g]? = some (.cells cs t (0, 0)) := h
  have e2 : w.heap[g]? = some (.cells cs' t' (0, 0)) := by rw [e]; exact h'
  rw [e1] at e2
  simp only [Option.some.injEq, Obj.cells.injEq] at e2
  exact hne e2.2.1
theorem own_blk_ne {base : Nat} {e : TypeId} {size n : Nat} {v : Value} {xs : List Value} (h : w.ownsRow base e size v n xs) (hg : Blk w g t cs) (hne : e ≠ t) : v.ownBlock ≠ some g := by
  intro hv
  rcases h.2 with ⟨h1, _⟩ | ⟨b, cap, cur, h1, _, h3, _⟩
  · rw [h1] at hv; cases hv
  · rw [h1] at hv
    have hb : b = g := by simpa [Value.ownBlock] using hv
    exact (show Blk w b e cur from h3).ne_ hg hne hb
theorem Blk.two (w : World) (A B : Array Value) (t u : TypeId) : Blk ((w.alloc (.cells A t)).alloc (.cells B u)) w.heap.size t A ∧ Blk ((w.alloc (.cells A t)).alloc (.cells B u)) (w.heap.size + 1) u B := by
  refine ⟨?_, ?_⟩
  · exact heap_alloc2_old w _ _
  · exact heap_alloc2_new w _ _
theorem Blk.row (h : Blk w g t cs) (cs' : Array Value) : Blk (w.setRow g cs') g t cs' := setRow_heap w g cs cs' t (0, 0) h
theorem but_setRow (S : Nat → Prop) {w0 w : World} (h : But S w0 w) {g : Nat} (hg : S g ∨ w0.heap.size ≤ g) (cs : Array Value) : But S w0 (w.setRow g cs) := by
  have k : But (fun i => i = g) w (w.setRow g cs) := ⟨rfl, rfl, rfl, by simp [World.setRow], fun i hi hne => setRow_other w g i cs hne⟩
  exact h.trans k (fun i hi e => by subst e; rcases hg with h1 | h1; exact h1; omega)
end
end Go.Proofs.YtkppliljlcihmaaGreatDoor.Mem
namespace Go.Proofs.YtkppliljlcihmaaGreatDoor.Rec
open Go.Proofs.YtkppliljlcihmaaGreatDoor.Mem Go.Proofs.YtkppliljlcihmaaGreatDoor.Pack
set_option linter.unusedVariables false
set_option linter.unusedSimpArgs false

/- A number that is read as a signed one. -/
def sgn (n : Nat) : Int := RowKit.wrap64 (n : Int)
/- What is read in a row: numbers of so many bytes, and a text. -/
structure Pos where
  zs : List Int
  short : Bool
def Pos.num (p : Pos) (k : Nat) : Nat := Pack.num (got p.zs k)
def Pos.skip (p : Pos) (k : Nat) : Pos := ⟨left p.zs k, shortBy p.zs k p.short⟩
def Pos.txt (p : Pos) : ByteArray := strOfNums (textGot p.zs)
def Pos.past (p : Pos) : Pos := ⟨textLeft p.zs, textShort p.zs p.short⟩
def first (p : Pos) : Rcd :=
  let k := p.num 1
  let p1 := p.skip 1
  let b := p1.num 1
  let p2 := p1.skip 1
  let g := p2.num 4
  let q := p2.skip 4
  if k = 1 then ⟨k, b, g, sgn (q.num 8), sgn ((q.skip 8).num 8), sgn (((q.skip 8).skip 8).num 8), (((q.skip 8).skip 8).skip 8).num 8, ((((q.skip 8).skip 8).skip 8).skip 8).num 4, 0, 0, nothing, nothing, 0, 0⟩
  else if k = 3 then ⟨k, b, g, 0, 0, 0, 0, 0, 0, 0, ((q.skip 8).skip 8).txt, (((q.skip 8).skip 8).past).txt, q.num 8, (q.skip 8).num 8⟩
  else if k = 4 then ⟨k, b, g, 0, 0, 0, 0, 0, 0, 0, (q.skip 8).txt, nothing, q.num 8, 0⟩
  else if k = 5 then ⟨k, b, g, 0, 0, 0, 0, q.num 4, (q.skip 4).num 1, ((q.skip 4).skip 1).num 8, nothing, nothing, 0, 0⟩
  else if k = 6 then ⟨k, b, g, 0, 0, 0, 0, q.num 4, 0, 0, nothing, nothing, 0, 0⟩
  else ⟨k, b, g, 0, 0, 0, 0, 0, 0, 0, nothing, nothing, 0, 0⟩
def behind (p : Pos) : Pos :=
  let k := p.num 1
  let q := ((p.skip 1).skip 1).skip 4
  if k = 1 then ((((q.skip 8).skip 8).skip 8).skip 8).skip 4
  else if k = 3 then (((q.skip 8).skip 8).past).past
  else if k = 4 then (q.skip 8).past
  else if k = 5 then ((q.skip 4).skip 1).skip 8
  else if k = 6 then q.skip 4
  else q
theorem skip_le (p : Pos) (k : Nat) : (p.skip k).zs.length ≤ p.zs.length := left_length_le _ _
theorem past_le (p : Pos) : p.past.zs.length ≤ p.zs.length := Nat.le_trans (left_length_le _ _) (left_length_le _ _)
theorem skip_bytes {p : Pos} (h : Bytes p.zs) (k : Nat) : Bytes (p.skip k).zs := left_bytes h k
theorem past_bytes {p : Pos} (h : Bytes p.zs) : Bytes p.past.zs := left_bytes (left_bytes h 2) _
theorem behind_bytes {p : Pos} (h : Bytes p.zs) : Bytes (behind p).zs := by
  have hq := skip_bytes (skip_bytes (skip_bytes h 1) 1) 4
  unfold behind
  simp only
  split
  · exact skip_bytes (skip_bytes (skip_bytes (skip_bytes (skip_bytes hq 8) 8) 8) 8) 4
  · split
    · exact past_bytes (past_bytes (skip_bytes (skip_bytes hq 8) 8))
    · split
      · exact past_bytes (skip_bytes hq 8)
      · split
        · exact skip_bytes (skip_bytes (skip_bytes hq 4) 1) 8
        · split
          · exact skip_bytes hq 4
          · exact hq
theorem behind_lt (p : Pos) (h : 0 < p.zs.length) : (behind p).zs.length < p.zs.length := by
  have h1 : (p.skip 1).zs.length < p.zs.length := by
    show (left p.zs 1).length < _
    unfold left
    rw [if_pos (by omega)]
    simp; omega
  have hq : (((p.skip 1).skip 1).skip 4).zs.length ≤ (p.skip 1).zs.length := Nat.le_trans (skip_le _ _) (skip_le _ _)
  have key : (behind p).zs.length ≤ (((p.skip 1).skip 1).skip 4).zs.length := by
    unfold behind
    simp only
    split
    · exact Nat.le_trans (skip_le _ _) (Nat.le_trans (skip_le _ _) (Nat.le_trans (skip_le _ _) (Nat.le_trans (skip_le _ _) (skip_le _ _))))
    · split
      · exact Nat.le_trans (past_le _) (Nat.le_trans (past_le _) (Nat.le_trans (skip_le _ _) (skip_le _ _)))
      · split
        · exact Nat.le_trans (past_le _) (skip_le _ _)
        · split
          · exact Nat.le_trans (skip_le _ _) (Nat.le_trans (skip_le _ _) (skip_le _ _))
          · split
            · exact skip_le _ _
            · exact Nat.le_refl _
  omega
/- Whether there is a record that may be at the front. -/
def good (p : Pos) : Bool := decide (May (first p)) && !(behind p).short
/- All records, if there are some to the end. -/
def recs (zs : List Int) : Option (List Rcd) :=
  if h : zs.length = 0 then some []
  else if good ⟨zs, false⟩ then (recs (behind ⟨zs, false⟩).zs).map (first ⟨zs, false⟩ :: ·) else none
termination_by zs.length
decreasing_by exact behind_lt ⟨zs, false⟩ (by simp only; omega)
theorem recs_nil : recs [] = some [] := by
  rw [recs]; rfl
theorem recs_good {zs : List Int} (h0 : 0 < zs.length) (h : good ⟨zs, false⟩ = true) : recs zs = (recs (behind ⟨zs, false⟩).zs).map (first ⟨zs, false⟩ :: ·) := by
  rw [recs, dif_neg (by omega), if_pos h]
theorem recs_bad {zs : List Int} (h0 : 0 < zs.length) (h : good ⟨zs, false⟩ = false) : recs zs = none := by
  rw [recs, dif_neg (by omega), if_neg (by rw [h]; exact Bool.false_ne_true)]
/- The records of a body. -/
def recsOf (zs : List Int) : Option (List Rcd) := if zs.length = 0 then none else recs zs
end Go.Proofs.YtkppliljlcihmaaGreatDoor.Rec
namespace Go.Proofs.YtkppliljlcihmaaGreatDoor.Rec
open Go.Proofs.YtkppliljlcihmaaGreatDoor.Mem Go.Proofs.YtkppliljlcihmaaGreatDoor.Pack
open Go.ChangeShapes Go.WideShapes Go.ChangeAt Go.RowKit
set_option linter.unusedVariables false
set_option linter.unusedSimpArgs false

/- A reader that bears changes of blocks from lo on. -/
def Keeps (RD : World → Pos → Prop) (lo : Nat) : Prop := ∀ w w' Q, RD w Q → But (fun k => lo ≤ k) w w' → RD w' Q
structure Rdg (RD : World → Pos → Prop) (S : Nat → Prop) (t : TypeId) (R B : Nat) (zs : Array Value) (w0 w : World) (P : Pos) (cs : Array Value) : Prop where
  rd : RD w P
  res : Blk w R t zs
  box : Blk w B t cs
  but : But S w0 w
  lowR : w0.heap.size ≤ R
  lowB : w0.heap.size ≤ B
  ne : R ≠ B
section
variable {RD : World → Pos → Prop} {S : Nat → Prop} {t : TypeId} {R B : Nat} {zs cs cs' : Array Value} {w0 w w' : World} {P P' : Pos}
theorem Rdg.read (h : Rdg RD S t R B zs w0 w P cs) (hS : ∀ k, S k → k < w0.heap.size) (hr : RD w' P') (hb : But S w w') : Rdg RD S t R B zs w0 w' P' cs :=
  ⟨hr, h.res.but hb (fun e => by have := hS _ e; have := h.lowR; omega), h.box.but hb (fun e => by have := hS _ e; have := h.lowB; omega), h.but.trans' hb, h.lowR, h.lowB, h.ne⟩
theorem Rdg.set (h : Rdg RD S t R B zs w0 w P cs) (fr : Keeps RD w0.heap.size) (i : Nat) (u : Value) (hcs : cs.setIfInBounds i u = cs') : Rdg RD S t R B zs w0 (w.setCell ⟨B, i, none⟩ u) P cs' := by
  have k : But (fun k => k = B) w (w.setCell ⟨B, i, none⟩ u) := (But.refl (fun k => k = B) w).setCell (p := ⟨B, i, none⟩) rfl u
  have hB := h.lowB
  refine ⟨fr _ _ _ h.rd (k.mono (fun j _ e => by omega)), h.res.but k h.ne, hcs ▸ h.box.set_ i u, h.but.trans k (fun j hj e => by omega), h.lowR, h.lowB, h.ne⟩
theorem Rdg.cell (h : Rdg RD S t R B zs w0 w P cs) (i : Nat) {u : Value} (hu : cs[i]? = some u) : w.cell? ⟨B, i, none⟩ = some u := (h.box.cell i).trans hu
theorem Rdg.frozen (h : Rdg RD S t R B zs w0 w P cs) (i : Nat) : w.frozen? ⟨B, i, none⟩ = false := h.box.frozen i
theorem Rdg.start (fr : Keeps RD w0.heap.size) (h : RD w0 P) (cs : Array Value) : Rdg RD S t w0.heap.size (w0.heap.size + 1) cs w0 ((w0.alloc (.cells cs t)).alloc (.cells cs t)) P cs := by
  have k : But (fun _ => False) w0 ((w0.alloc (.cells cs t)).alloc (.cells cs t)) := ((But.refl _ w0).alloc _).alloc _
  obtain ⟨h1, h2⟩ := Blk.two w0 cs cs t t
  exact ⟨fr _ _ _ h (k.mono (fun _ _ e => e.elim)), h1, h2, k.mono (fun _ _ e => e.elim), Nat.le_refl _, by omega, by omega⟩
theorem Rdg.last (h : Rdg RD S t R B zs w0 w P cs) (fr : Keeps RD w0.heap.size) (cs' : Array Value) : RD (w.setRow R cs') P ∧ But S w0 (w.setRow R cs') := by
  have k : But (fun k => k = R) w (w.setRow R cs') := but_setRow (fun k => k = R) (But.refl _ w) (.inl rfl) cs'
  have hR := h.lowR
  exact ⟨fr _ _ _ h.rd (k.mono (fun j _ e => by omega)), but_setRow S h.but (.inr h.lowR) cs'⟩
end
theorem pos_num_lt {P : Pos} (h : Bytes P.zs) (k m : Nat) (hk : 256 ^ k = m) : P.num k < m := by
  have h1 := num_lt (got_bytes h k)
  have h2 : 256 ^ (got P.zs k).length ≤ 256 ^ k := pow256_le (got_length_le P.zs k)
  rw [← hk]
  exact Nat.lt_of_lt_of_le h1 h2
theorem num1_lt {P : Pos} (h : Bytes P.zs) : P.num 1 < 256 := pos_num_lt h 1 _ (by decide)
theorem num4_lt {P : Pos} (h : Bytes P.zs) : P.num 4 < 4294967296 := pos_num_lt h 4 _ (by decide)
theorem num8_lt {P : Pos} (h : Bytes P.zs) : P.num 8 < 18446744073709551616 := pos_num_lt h 8 _ (by decide)
/- The program's reader, and the document's. -/
def RdP (p D : Nat) (w : World) (P : Pos) : Prop := Rd w p D P.zs P.short
def RfP (q bd : Nat) (w : World) (P : Pos) : Prop := Rf w q bd P.zs P.short
theorem rdP_keeps {p D lo : Nat} (hp : p < lo) (hD : D < lo) : Keeps (RdP p D) lo := fun w w' Q h hb => Rd.but (S := fun k => lo ≤ k) h hb (by omega) (by omega)
theorem rfP_keeps {q bd lo : Nat} (hq : q < lo) (hbd : bd ≤ lo) : Keeps (RfP q bd) lo := fun w w' Q h hb => Rf.but (S := fun k => lo ≤ k) h hb (by omega) (fun k hk => by omega)
theorem rdP_number (p D : Nat) (P : Pos) (k : Nat) (h1 : 1 ≤ k) (h8 : k ≤ 8) (w : World) (h : RdP p D w P) :
    Calls Tryz.prog 80 #[.pointer (some ⟨p, 0, none⟩), .int .i64 (k : Int)] w fun e w' => e = .returned (.int .u64 ((P.num k : Nat) : Int)) ∧ RdP p D w' (P.skip k) ∧ But (fun b => b = p) w w' := number_any p P.zs P.short k h1 h8 w h
theorem rdP_text (p D : Nat) (P : Pos) (w : World) (h : RdP p D w P) :
    Calls Tryz.prog 79 #[.pointer (some ⟨p, 0, none⟩)] w fun e w' => e = .returned (.string P.txt) ∧ RdP p D w' P.past ∧ But (fun b => b = p) w w' := text_any p P.zs P.short w h
end Go.Proofs.YtkppliljlcihmaaGreatDoor.Rec

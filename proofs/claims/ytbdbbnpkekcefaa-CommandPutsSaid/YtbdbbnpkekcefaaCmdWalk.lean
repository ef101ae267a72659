/- A reader, and beside it two blocks: what is read is stored into the one, and at the end all of it into the other. -/
import Derived.Test.YtbdbbnpkekcefaaCmdMem
namespace Go.Proofs.Ytbdbbnpkekcefaa.Cmd
open Go.Proofs.Ytbdbbnpkekcefaa.Mem Go.Proofs.Ytbdbbnpkekcefaa.Pack
open Go.ChangeShapes Go.WideShapes Go.ChangeAt Go.RowKit
set_option linter.unusedVariables false
set_option linter.unusedSimpArgs false

def RdP (p D : Nat) (w : World) (P : Pos) : Prop := Rd w p D P.zs P.short
def RfP (q bd : Nat) (w : World) (P : Pos) : Prop := Rf w q bd P.zs P.short
theorem RdP.lt {p D : Nat} {w : World} {P : Pos} (h : RdP p D w P) : p < w.heap.size := World.block_lt_of_cell? w ⟨p, 1, none⟩ h.1
theorem RdP.bytes {p D : Nat} {w : World} {P : Pos} (h : RdP p D w P) : Bytes P.zs := h.2.2.2.2.1
structure Rdg (p D : Nat) (t : TypeId) (R B : Nat) (zs : Array Value) (w0 w : World) (P : Pos) (cs : Array Value) : Prop where
  rd : RdP p D w P
  res : Blk w R t zs
  box : Blk w B t cs
  but : But (fun k => k = p) w0 w
  lowR : w0.heap.size ≤ R
  lowB : w0.heap.size ≤ B
  ne : R ≠ B
  pR : p ≠ R ∧ D ≠ R
  pB : p ≠ B ∧ D ≠ B
section
variable {p D : Nat} {t : TypeId} {R B : Nat} {zs cs cs' : Array Value} {w0 w w' : World} {P P' : Pos}
theorem Rdg.read (h : Rdg p D t R B zs w0 w P cs) (hr : RdP p D w' P') (hb : But (fun k => k = p) w w') : Rdg p D t R B zs w0 w' P' cs :=
  ⟨hr, h.res.but hb (fun e => h.pR.1 e.symm), h.box.but hb (fun e => h.pB.1 e.symm), h.but.trans' hb, h.lowR, h.lowB, h.ne, h.pR, h.pB⟩
theorem Rdg.new (h : Rdg p D t R B zs w0 w P cs) (hb : But (fun _ => False) w w') : Rdg p D t R B zs w0 w' P cs :=
  h.read (Rd.but (S := fun _ => False) h.rd hb (fun e => e) (fun e => e)) (hb.mono (fun _ _ e => e.elim))
theorem Rdg.set (h : Rdg p D t R B zs w0 w P cs) (i : Nat) (u : Value) (hcs : cs.setIfInBounds i u = cs') : Rdg p D t R B zs w0 (w.setCell ⟨B, i, none⟩ u) P cs' := by
  have k : But (fun k => k = B) w (w.setCell ⟨B, i, none⟩ u) := (But.refl (fun k => k = B) w).setCell (p := ⟨B, i, none⟩) rfl u
  have hB := h.lowB
  refine ⟨Rd.but (S := fun k => k = B) h.rd k h.pB.1 h.pB.2, h.res.but k h.ne, hcs ▸ h.box.set_ i u, h.but.trans k (fun j hj e => by omega), h.lowR, h.lowB, h.ne, h.pR, h.pB⟩
theorem Rdg.cell (h : Rdg p D t R B zs w0 w P cs) (i : Nat) {u : Value} (hu : cs[i]? = some u) : w.cell? ⟨B, i, none⟩ = some u := (h.box.cell i).trans hu
theorem Rdg.frozen (h : Rdg p D t R B zs w0 w P cs) (i : Nat) : w.frozen? ⟨B, i, none⟩ = false := h.box.frozen i
theorem Rdg.start (h : RdP p D w0 P) (hp : p < w0.heap.size) (hD : D < w0.heap.size) (cs : Array Value) : Rdg p D t w0.heap.size (w0.heap.size + 1) cs w0 ((w0.alloc (.cells cs t)).alloc (.cells cs t)) P cs := by
  have k : But (fun _ => False) w0 ((w0.alloc (.cells cs t)).alloc (.cells cs t)) := ((But.refl _ w0).alloc _).alloc _
  obtain ⟨h1, h2⟩ := Blk.two w0 cs cs t t
  exact ⟨Rd.but (S := fun _ => False) h k (fun e => e) (fun e => e), h1, h2, k.mono (fun _ _ e => e.elim), Nat.le_refl _, by omega, by omega, by omega, by omega⟩
/- The result's block is there; the variable's is made now. -/
theorem Rdg.begin (hr : RdP p D w P) (hres : Blk w R t zs) (hb : But (fun k => k = p) w0 w) (hlow : w0.heap.size ≤ R) (hpR : p ≠ R ∧ D ≠ R) (hD : D < w.heap.size) (cs : Array Value) : Rdg p D t R w.heap.size zs w0 (w.alloc (.cells cs t)) P cs := by
  have k : But (fun _ => False) w (w.alloc (.cells cs t)) := (But.refl _ w).alloc _
  have hp := hr.lt
  have hR := hres.lt
  exact ⟨Rd.but (S := fun _ => False) hr k (fun e => e) (fun e => e), hres.but k (fun e => e), Blk.new _ _ _, hb.trans k (fun _ _ e => e.elim), hlow, hb.size, by omega, hpR, by omega, by omega⟩
theorem Rdg.last (h : Rdg p D t R B zs w0 w P cs) (cs' : Array Value) : RdP p D (w.setRow R cs') P ∧ But (fun k => k = p) w0 (w.setRow R cs') := by
  have k : But (fun k => k = R) w (w.setRow R cs') := but_setRow (fun k => k = R) (But.refl _ w) (.inl rfl) cs'
  have hR := h.lowR
  exact ⟨Rd.but (S := fun k => k = R) h.rd k h.pR.1 h.pR.2, but_setRow (fun k => k = p) h.but (.inr h.lowR) cs'⟩
end
theorem rdP_number (p D : Nat) (P : Pos) (k : Nat) (h1 : 1 ≤ k) (h8 : k ≤ 8) (w : World) (h : RdP p D w P) :
    Calls Try.prog 42 #[.pointer (some ⟨p, 0, none⟩), .int .i64 (k : Int)] w fun e w' => e = .returned (.int .u64 ((P.num k : Nat) : Int)) ∧ RdP p D w' (P.skip k) ∧ But (fun b => b = p) w w' := number_any p P.zs P.short k h1 h8 w h
theorem rdP_text (p D : Nat) (P : Pos) (w : World) (h : RdP p D w P) :
    Calls Try.prog 47 #[.pointer (some ⟨p, 0, none⟩)] w fun e w' => e = .returned (.string P.txt) ∧ RdP p D w' P.past ∧ But (fun b => b = p) w w' := text_any p P.zs P.short w h
theorem rfP_number (q bd : Nat) (P : Pos) (k : Nat) (h1 : 1 ≤ k) (h8 : k ≤ 8) (w : World) (h : RfP q bd w P) :
    Calls Try.prog 24 #[.pointer (some ⟨q, 0, none⟩), .int .i64 (k : Int)] w fun e w' => e = .returned (.int .u64 ((P.num k : Nat) : Int)) ∧ RfP q bd w' (P.skip k) ∧ But (fun b => b = q) w w' := refNumber_any q P.zs P.short k h1 h8 w h
theorem rfP_text (q bd : Nat) (P : Pos) (hz : Bytes P.zs) (w : World) (h : RfP q bd w P) :
    Calls Try.prog 57 #[.pointer (some ⟨q, 0, none⟩)] w fun e w' => e = .returned (.string P.txt) ∧ RfP q bd w' P.past ∧ But (fun b => b = q) w w' := refText_read q P.zs P.short w h hz
/- Ops in a slice whose block is not below a bound. -/
def OpsFrom (lo : Nat) (w : World) (sv : Value) (l : List Op) : Prop :=
  ∃ a cap, sv = .slice a l.length cap ∧ (0 < l.length → ∃ b off, a = some ⟨b, off, none⟩ ∧ lo ≤ b ∧ b < w.heap.size ∧ ∀ i (h : i < l.length) j u, (ocells l[i])[j]? = some u → w.cell? ⟨b, off + i * 5 + j, none⟩ = some u)
theorem OpsFrom.at_ {lo : Nat} {w : World} {sv : Value} {l : List Op} (h : OpsFrom lo w sv l) : OpsAt w sv l := by
  obtain ⟨a, cap, e, hc⟩ := h
  refine ⟨a, cap, e, fun h0 => ?_⟩
  obtain ⟨b, off, h1, _, h2, h3⟩ := hc h0
  exact ⟨b, off, h1, h2, h3⟩
theorem OpsFrom.but {lo : Nat} {S : Nat → Prop} {w w' : World} {sv : Value} {l : List Op} (h : OpsFrom lo w sv l) (hb : But S w w') (hS : ∀ k, lo ≤ k → k < w.heap.size → ¬ S k) : OpsFrom lo w' sv l := by
  obtain ⟨a, cap, e, hc⟩ := h
  refine ⟨a, cap, e, fun h0 => ?_⟩
  obtain ⟨b, off, h1, hlo, hlt, hx⟩ := hc h0
  exact ⟨b, off, h1, hlo, Nat.lt_of_lt_of_le hlt hb.size, fun i hi j u hu => (hb.cell (p := ⟨b, off + i * 5 + j, none⟩) hlt (hS b hlo hlt)).trans (hx i hi j u hu)⟩
theorem OpsFrom.mono {lo lo' : Nat} {w : World} {sv : Value} {l : List Op} (h : OpsFrom lo w sv l) (hl : lo' ≤ lo) : OpsFrom lo' w sv l := by
  obtain ⟨a, cap, e, hc⟩ := h
  refine ⟨a, cap, e, fun h0 => ?_⟩
  obtain ⟨b, off, h1, hlo, hlt, hx⟩ := hc h0
  exact ⟨b, off, h1, Nat.le_trans hl hlo, hlt, hx⟩
theorem OpsFrom.nil (lo : Nat) (w : World) : OpsFrom lo w (.slice none 0 0) [] := ⟨none, 0, rfl, fun h => absurd h (by simp)⟩
theorem opsFrom_of_own {w : World} {base : Nat} {e : TypeId} {v : Value} {l : List Op} (h : w.ownsRow base e 5 v l.length (l.flatMap ocells)) : OpsFrom base w v l := by
  rcases h.2 with ⟨hv, hn⟩ | ⟨g, cap, cur, hv, hg, hh, hnc, hcm, hcs, ht⟩
  · exact ⟨none, 0, by rw [hv, hn], fun h0 => absurd h0 (by omega)⟩
  · refine ⟨_, cap, hv, fun _ => ⟨g, 0, rfl, hg, (h.lt g (by rw [hv]; rfl)).2, fun i hil j u hu => ?_⟩⟩
    have hj : j < 5 := (List.getElem?_eq_some_iff.1 hu).1
    have h1 := flat_get (f := ocells) ocells_length (l := l) (i := i) (j := j) (x := l[i]) (List.getElem?_eq_getElem hil) hj
    have hlen : (l.flatMap ocells).length = l.length * 5 := flat_length ocells_length l
    have hsub : World.ownsRow w base e 5 (.slice (some ⟨g, 0, none⟩) l.length cap) l.length (l.flatMap ocells) := by rw [← hv]; exact h
    have h2 := hsub.cellAt (i * 5 + j) (by have : (i + 1) * 5 ≤ l.length * 5 := Nat.mul_le_mul_right 5 hil; omega)
    rw [Nat.zero_add, h2, h1, hu]
theorem opsFrom_one {w : World} {lo : Nat} (hlo : lo ≤ w.heap.size) (o : Op) (e : TypeId) (fr : Nat × Nat) : OpsFrom lo (w.alloc (.cells #[.bool o.del, .string o.key, .string o.val, .int .u64 (o.cond : Int), .int .u64 (o.ttl : Int)] e fr)) (.slice (some ⟨w.heap.size, 0, none⟩) 1 1) [o] := by
  refine ⟨_, 1, rfl, fun _ => ⟨_, _, rfl, hlo, by simp, fun i hi j u hu => ?_⟩⟩
  have hi0 : i = 0 := by simp at hi; omega
  subst hi0
  rw [World.cell?_alloc_mark]
  simpa [ocells] using hu
end Go.Proofs.Ytbdbbnpkekcefaa.Cmd

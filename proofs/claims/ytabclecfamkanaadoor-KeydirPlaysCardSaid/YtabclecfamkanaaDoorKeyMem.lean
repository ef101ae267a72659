/- Rows of entries: one is written, one is read; new tables. -/
import Derived.Test.YtabclecfamkanaaDoorKeyFind
import Derived.Deep.MidRow
namespace Go.Proofs.YtabclecfamkanaaDoor.Key
open Go.Proofs.YtabclecfamkanaaDoor.Mem Go.Proofs.YtabclecfamkanaaDoor.Fnv
open Go.ChangeShapes Go.WideShapes Go.ChangeAt Go.RowKit
set_option linter.unusedVariables false
set_option linter.unusedSimpArgs false
theorem blk_setCells {g : Nat} {t : TypeId} : ∀ {vs A B C : List Value} {w : World}, Blk w g t (A ++ B ++ C).toArray → B.length = vs.length → Blk (w.setCells g A.length vs) g t (A ++ vs ++ C).toArray
  | [], A, B, C, w, h, hl => by
    have : B = [] := List.eq_nil_of_length_eq_zero (by simpa using hl)
    subst this
    exact h
  | v :: vs, A, [], C, w, h, hl => by simp at hl
  | v :: vs, A, b :: B, C, w, h, hl => by
    rw [World.setCells]
    have h1 := h.set_ A.length v
    have e : ((A ++ b :: B ++ C).toArray.setIfInBounds A.length v) = ((A ++ [v]) ++ B ++ C).toArray := by
      simp [List.append_assoc]
    rw [e] at h1
    have := blk_setCells (vs := vs) (A := A ++ [v]) (B := B) (C := C) h1 (by simpa using hl)
    simpa [List.append_assoc] using this
theorem but_setCells (g : Nat) : ∀ (vs : List Value) (o : Nat) (w : World), But (fun k => k = g) w (w.setCells g o vs)
  | [], o, w => But.refl _ w
  | v :: vs, o, w => by
    rw [World.setCells]
    exact ((But.refl (fun k => k = g) w).setCell (p := ⟨g, o, none⟩) rfl v).trans' (but_setCells g vs (o + 1) _)
theorem flat_split {α : Type} {f : α → List Value} {l : List α} {i : Nat} {x : α} (h : l[i]? = some x) : l.flatMap f = (l.take i).flatMap f ++ f x ++ (l.drop (i + 1)).flatMap f := by
  obtain ⟨hi, rfl⟩ := List.getElem?_eq_some_iff.1 h
  have e : l = l.take i ++ l[i] :: l.drop (i + 1) := by rw [← List.drop_eq_getElem_cons hi, List.take_append_drop]
  have e2 := congrArg (fun l => l.flatMap f) e
  simp only [List.flatMap_append, List.flatMap_cons] at e2
  rw [List.append_assoc]
  exact e2
theorem flat_set {α : Type} {f : α → List Value} {l : List α} {i : Nat} (y : α) (hi : i < l.length) : (l.set i y).flatMap f = (l.take i).flatMap f ++ f y ++ (l.drop (i + 1)).flatMap f := by
  have e : l.set i y = l.take i ++ y :: l.drop (i + 1) := List.set_eq_take_append_cons_drop.trans (by rw [if_pos hi])
  rw [e]
  simp [List.flatMap_append, List.append_assoc]
theorem blk_put {α : Type} {f : α → List Value} {k : Nat} (hf : ∀ x, (f x).length = k) {w : World} {g : Nat} {t : TypeId} {l : List α} {i : Nat} (h : Blk w g t (l.flatMap f).toArray) (hi : i < l.length) (y : α) : Blk (w.setCells g (i * k) (f y)) g t ((l.set i y).flatMap f).toArray := by
  have hx : l[i]? = some l[i] := List.getElem?_eq_getElem hi
  rw [flat_split hx] at h
  have := blk_setCells (vs := f y) h (by rw [hf, hf])
  rw [flat_length hf, List.length_take, Nat.min_eq_left (by omega)] at this
  rw [flat_set y hi]
  exact this
theorem blk_range {α : Type} {f : α → List Value} {k : Nat} (hf : ∀ x, (f x).length = k) {w : World} {g : Nat} {t : TypeId} {l : List α} {i : Nat} {x : α} (h : Blk w g t (l.flatMap f).toArray) (hi : l[i]? = some x) : w.rangeAt g (i * k) (f x) := by
  intro j v hv
  have hj : j < k := by rw [← hf x]; exact (List.getElem?_eq_some_iff.1 hv).1
  rw [h.cell, List.getElem?_toArray, flat_get hf hi hj]
  exact hv
theorem blk_there {α : Type} {f : α → List Value} {k : Nat} (hf : ∀ x, (f x).length = k) {w : World} {g : Nat} {t : TypeId} {l : List α} {i : Nat} (h : Blk w g t (l.flatMap f).toArray) (hi : i < l.length) : w.there g (i * k) k := by
  intro j hj
  refine ⟨?_, h.frozen _⟩
  have := (blk_range hf h (List.getElem?_eq_getElem hi)).isSome j (by rw [hf]; exact hj)
  exact this
theorem row_range {w : World} {g : Nat} {t : TypeId} {T : Tab} {i : Nat} (h : Blk w g t (rowT T).toArray) (hi : i < T.length) : w.rangeAt g (i * 8) (pcells (look T i)) := blk_range pcells_length h (look_some hi)
theorem row_put {w : World} {g : Nat} {t : TypeId} {T : Tab} {i : Nat} (h : Blk w g t (rowT T).toArray) (hi : i < T.length) (o : Option Ent) : Blk (w.setCells g (i * 8) (pcells o)) g t (rowT (T.set i o)).toArray := blk_put pcells_length h hi o
theorem row_there {w : World} {g : Nat} {t : TypeId} {T : Tab} {i : Nat} (h : Blk w g t (rowT T).toArray) (hi : i < T.length) : w.there g (i * 8) 8 := blk_there pcells_length h hi
theorem place_size : (Tryd.prog.info? 59).map (·.size) = some 8 := by kernel_rfl
theorem entry_size : (Tryd.prog.info? 32).map (·.size) = some 7 := by kernel_rfl
theorem ecells_one (e : Ent) : ∀ v ∈ ecells e, v.oneCell' = true := by
  intro v hv
  simp only [ecells, List.mem_cons, List.not_mem_nil, or_false] at hv
  rcases hv with rfl | rfl | rfl | rfl | rfl | rfl | rfl <;> rfl
theorem pcells_one (o : Option Ent) : ∀ v ∈ pcells o, v.oneCell' = true := by
  intro v hv
  rw [pcells_eq] at hv
  rcases List.mem_cons.1 hv with rfl | h
  · rfl
  · exact ecells_one _ v h
def ev (e : Ent) : Value := .agg (ecells e).toArray
def pv (o : Option Ent) : Value := .agg (pcells o).toArray
theorem load_place {w : World} {g : Nat} {t : TypeId} {T : Tab} {i : Nat} (h : Blk w g t (rowT T).toArray) (hi : i < T.length) : (Instr.loadAt 59 (.pointer (some ⟨g, i * 8, none⟩))).run Tryd.prog w = .ok (pv (look T i)) w :=
  run_loadAt_mid w g (i * 8) _ (pcells (look T i)) _ (row_range h hi) Tryd.underlying59 rfl (by rw [pcells_length]; exact place_size)
theorem blk_there0 {w : World} {g n : Nat} {t : TypeId} {cs : List Value} (h : Blk w g t cs.toArray) (hn : cs.length = n) : w.there g 0 n := by
  intro j hj
  refine ⟨?_, h.frozen _⟩
  rw [h.cell, List.getElem?_toArray, Nat.zero_add, List.getElem?_eq_getElem (by omega)]
  rfl
theorem blk_set0 {w : World} {g : Nat} {t : TypeId} {cs vs : List Value} (h : Blk w g t cs.toArray) (hl : cs.length = vs.length) : Blk (w.setCells g 0 vs) g t vs.toArray := by
  have := blk_setCells (vs := vs) (A := []) (B := cs) (C := []) (w := w) (g := g) (t := t) (by simpa using h) hl
  simpa using this
theorem blk_range0 {w : World} {g : Nat} {t : TypeId} {A B : List Value} (h : Blk w g t (A ++ B).toArray) : w.rangeAt g A.length B := by
  intro j v hv
  rw [h.cell, List.getElem?_toArray, List.getElem?_append_right (by omega), Nat.add_sub_cancel_left]
  exact hv
theorem ecells_length (e : Ent) : (ecells e).length = 7 := rfl
/- A place that lies in a block of its own: the whole, and its entry. -/
theorem load_box {w : World} {g : Nat} {t : TypeId} {o : Option Ent} (h : Blk w g t (pcells o).toArray) : (Instr.loadAt 59 (.pointer (some ⟨g, 0, none⟩))).run Tryd.prog w = .ok (pv o) w :=
  run_loadAt_mid w g 0 _ (pcells o) _ (blk_range0 (A := []) h) Tryd.underlying59 rfl (by rw [pcells_length]; exact place_size)
theorem load_entry {w : World} {g : Nat} {t : TypeId} {o : Option Ent} (h : Blk w g t (pcells o).toArray) : (Instr.loadAt 32 (.pointer (some ⟨g, 1, none⟩))).run Tryd.prog w = .ok (ev (ent o)) w :=
  run_loadAt_mid w g 1 _ (ecells (ent o)) _ (blk_range0 (A := [.bool o.isSome]) (by rw [pcells_eq] at h; exact h)) Tryd.underlying32 rfl (by rw [ecells_length]; exact entry_size)
theorem load_ent {w : World} {g : Nat} {t : TypeId} {e : Ent} (h : Blk w g t (ecells e).toArray) : (Instr.loadAt 32 (.pointer (some ⟨g, 0, none⟩))).run Tryd.prog w = .ok (ev e) w :=
  run_loadAt_mid w g 0 _ (ecells e) _ (blk_range0 (A := []) h) Tryd.underlying32 rfl (by rw [ecells_length]; exact entry_size)
/- A load of many cells in a region that draws its order. -/
theorem yields_place {ops : Array Oper} {S : World → Prop} {op : Oper} {a : Act} (hw : Region.wanted op (yielded ops a.tmps) = true) (x : Operand) (ho : op.op = .load 59 x) (b o : Nat) (hx : a.eval x = .pointer (some ⟨b, o, none⟩)) (q : Option Ent) (hS : ∀ w, S w → w.rangeAt b o (pcells q)) : YieldsIf Tryd.prog ops S op (pv q) a :=
  yieldsIf_load_mid hw _ x ho b o hx (pcells q) _ hS Tryd.underlying59 rfl (by rw [pcells_length]; exact place_size)
theorem yields_entry {ops : Array Oper} {S : World → Prop} {op : Oper} {a : Act} (hw : Region.wanted op (yielded ops a.tmps) = true) (x : Operand) (ho : op.op = .load 32 x) (b o : Nat) (hx : a.eval x = .pointer (some ⟨b, o, none⟩)) (q : Ent) (hS : ∀ w, S w → w.rangeAt b o (ecells q)) : YieldsIf Tryd.prog ops S op (ev q) a :=
  yieldsIf_load_mid hw _ x ho b o hx (ecells q) _ hS Tryd.underlying32 rfl (by rw [ecells_length]; exact entry_size)
theorem box_range {w : World} {g : Nat} {t : TypeId} {o : Option Ent} (h : Blk w g t (pcells o).toArray) : w.rangeAt g 0 (pcells o) := blk_range0 (A := []) h
theorem box_entry {w : World} {g : Nat} {t : TypeId} {o : Option Ent} (h : Blk w g t (pcells o).toArray) : w.rangeAt g 1 (ecells (ent o)) := blk_range0 (A := [.bool o.isSome]) (by rw [pcells_eq] at h; exact h)
theorem ent_range {w : World} {g : Nat} {t : TypeId} {e : Ent} (h : Blk w g t (ecells e).toArray) : w.rangeAt g 0 (ecells e) := blk_range0 (A := []) h
theorem wp_store_blk {ops : Array Oper} {op : Oper} {a : Act} {w : World} {K : Act → World → Prop} {Q : Exit → Act → World → Prop} {E : Prop} (hwd : Region.wanted op (yielded ops a.tmps) = true) (ty : TypeId) (x y : Operand) (ho : op.op = .store ty x y)
    (b o : Nat) (vs : List Value) (hx : a.eval x = .pointer (some ⟨b, o, none⟩)) (hy : a.eval y = .agg vs.toArray)
    (ht : w.there b o vs.length) (hi : (Tryd.prog.info? ty).map (·.size) = some vs.length) (h1 : ∀ v ∈ vs, v.oneCell' = true)
    (h : K (a.put op.dst undef) (w.setCells b o vs)) : if Region.wanted op (yielded ops a.tmps) = true then Oper.wp Tryd.prog op a w K Q else E := by
  rw [if_pos hwd]
  exact wp_store_mid ty x y ho b o vs.toArray hx hy (by simpa using ht) (by simpa using hi) (all_oneCell_toArray h1) (by simpa using h)
/- New rows of zero values. -/
theorem made_flat {α : Type} {f : α → List Value} {k : Nat} (hk : 0 < k) (hf : ∀ x, (f x).length = k) (x : α) (m : Nat) (z : Array Value) (hz : z = (f x).toArray) : madeCells z (m * k) = ((List.replicate m x).flatMap f).toArray := by
  have hs : z.size = k := by rw [hz, List.size_toArray, hf]
  apply Array.ext
  · rw [size_madeCells, List.size_toArray, flat_length hf, List.length_replicate]
  · intro j h1 h2
    rw [size_madeCells] at h1
    have hd : j / k < m := Nat.div_lt_of_lt_mul (by rw [Nat.mul_comm]; exact h1)
    have hm : j % k < k := Nat.mod_lt _ hk
    have hg := flat_get (f := f) hf (l := List.replicate m x) (i := j / k) (j := j % k) (x := x) (by simp [List.getElem?_replicate, hd]) hm
    rw [show j / k * k + j % k = j by rw [Nat.mul_comm]; exact Nat.div_add_mod j k] at hg
    rw [List.getElem?_eq_getElem (by simpa using h2), List.getElem?_eq_getElem (by rw [hf]; exact hm)] at hg
    injection hg with hg
    rw [show ((List.replicate m x).flatMap f).toArray[j] = (f x)[j % k]'(by rw [hf]; exact hm) from (List.getElem_toArray ..).trans hg]
    simp only [madeCells, Array.getElem_map, Array.getElem_range, hs]
    subst hz
    rw [getElem!_pos _ _ (by rw [List.size_toArray, hf]; exact hm)]
    simp
theorem run_make_flat {P : Program} (w : World) (t e : TypeId) (z : Value) (k bytes : Nat) (h1 : P.underlying t = some (.slice e)) (h2 : (P.info? e).map (fun i => (i.zero, i.size, i.bytes)) = some (some z, k, bytes))
    {α : Type} (f : α → List Value) (x : α) (hk : 0 < k) (hf : ∀ x, (f x).length = k) (hz : z.cells = (f x).toArray) (n : Nat) (hb : bytes * n ≤ 281474976710656) (hn : n ≤ 1000000000) :
    (Instr.makeSlice t (.int .i64 (n : Int)) (.int .i64 (n : Int))).run P w = .ok (.slice (some ⟨w.heap.size, 0, none⟩) n n) (w.alloc (.cells ((List.replicate n x).flatMap f).toArray e)) := by
  obtain ⟨i, hi, hzz⟩ := Option.map_eq_some_iff.1 h2
  simp only [Prod.mk.injEq] at hzz
  obtain ⟨hz0, hz1, hz2⟩ := hzz
  have hb' : (i.bytes : Int) * (n : Int) ≤ 281474976710656 := by
    have h : ((i.bytes * n : Nat) : Int) ≤ 281474976710656 := by rw [hz2]; omega
    rwa [Int.natCast_mul] at h
  have := run_make (P := P) w t e i z h1 hi hz0 .i64 .i64 n n (by omega) (by omega) hb' (by omega)
  rw [this, Int.toNat_natCast, hz1, made_flat hk hf x n _ hz]
theorem wpList_make_flat {P : Program} {w : World} {ops : Array Oper} {rest : List Oper} {o : Oper} {a : Act} {Q : Exit → Act → World → Prop}
    (hg : o.guard = none) (l c : Operand) (t : TypeId) (hop : o.op = Op.makeSlice t l c) (e : TypeId) (z : Value) (k bytes : Nat) (h1 : P.underlying t = some (.slice e)) (h2 : (P.info? e).map (fun i => (i.zero, i.size, i.bytes)) = some (some z, k, bytes))
    {α : Type} (f : α → List Value) (x : α) (hk : 0 < k) (hf : ∀ x, (f x).length = k) (hz : z.cells = (f x).toArray) (N C : Int) (n : Nat) (hl : a.eval l = .int .i64 N) (hc : a.eval c = .int .i64 C) (hN : N = (n : Int)) (hC : C = (n : Int)) (hb : bytes * n ≤ 281474976710656) (hn : n ≤ 1000000000)
    (hK : wpList P ops Q rest (a.put o.dst (.slice (some ⟨w.heap.size, 0, none⟩) n n)) (w.alloc (.cells ((List.replicate n x).flatMap f).toArray e))) :
    wpList P ops Q (o :: rest) a w := by
  refine wpList_plain hg fun K hK' => ?_
  subst hN
  subst hC
  unfold Oper.wp
  simp [execOp, hop, hl, hc, run_make_flat w t e z k bytes h1 h2 f x hk hf hz n hb hn, Result.andThen]
  exact hK' _ _ hK
theorem place_info : (Tryd.prog.info? 59).map (fun i => (i.zero, i.size, i.bytes)) = some (some (.agg (pcells none).toArray), 8, 72) := by kernel_rfl
theorem made_places (w : World) (n : Nat) (hn : n ≤ 100000) : (Instr.makeSlice 55 (.int .i64 (n : Int)) (.int .i64 (n : Int))).run Tryd.prog w = .ok (.slice (some ⟨w.heap.size, 0, none⟩) n n) (w.alloc (.cells (rowT (List.replicate n none)).toArray 59)) :=
  run_make_flat w _ _ _ 8 72 Tryd.underlying55 place_info pcells none (by omega) pcells_length rfl n (by omega) (by omega)
end Go.Proofs.YtabclecfamkanaaDoor.Key

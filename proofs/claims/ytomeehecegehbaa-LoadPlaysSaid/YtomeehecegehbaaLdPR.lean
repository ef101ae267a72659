/- What LoadPlays holds behind some deeds: the loads, and the law's own list. -/
import Derived.Test.YtomeehecegehbaaLdPairs
import Derived.Deep.MidRow
import Derived.Great.BuildSlice
namespace Go.Proofs.Ytomeehecegehbaa.Ld
open Go.Proofs.Ytomeehecegehbaa.Mem
open Go.ChangeShapes Go.WideShapes Go.ChangeAt Go.RowKit
set_option linter.unusedVariables false
set_option linter.unusedSimpArgs false
theorem own_blk_ne {w : World} {base g : Nat} {e t : TypeId} {size n : Nat} {v : Value} {xs : List Value} {cs : Array Value} (h : w.ownsRow base e size v n xs) (hg : Blk w g t cs) (hne : e ≠ t) : ∀ j, v.ownBlock = some j → j ≠ g := by
  intro j hj hjg
  subst hjg
  rcases h.2 with ⟨h1, _⟩ | ⟨b, cap, cur, h1, _, h3, _⟩
  · rw [h1] at hj; cases hj
  · rw [h1] at hj
    have hb : b = j := by simpa [Value.ownBlock] using hj
    subst hb
    have h4 : w.heap[b]? = some (.cells cs t (0, 0)) := hg
    rw [h3] at h4
    simp only [Option.some.injEq, Obj.cells.injEq] at h4
    exact hne h4.2.1
theorem own_map_ne {w : World} {base g n : Nat} {t k : TypeId} {v : Value} {m : Nat} {xs : List Value} {H : Type} {P : Program} {R : Value → Option (DataW H × List MemPlace)} {D : DataW H} {size : Nat} (ho : w.ownsRow base t size v m xs) (hm : w.ownsMap P k R g n D) : ∀ j, v.ownBlock = some j → j ≠ g := by
  intro j hj e
  subst e
  rcases ho.2 with ⟨rfl, _⟩ | ⟨g', cap, cur, rfl, _, hh, _⟩
  · simp [Value.ownBlock] at hj
  · have : g' = j := by simpa [Value.ownBlock] using hj
    subst this
    obtain ⟨es, clock, hb, _⟩ := hm
    rw [hh] at hb
    cases hb
structure PR (W wr : World) (p mb N : Nat) (f : Int → Pr) (v : Value) (M : List Pair) : Prop where
  live : Live W wr p mb N f
  row : wr.ownsRow W.heap.size 30 3 v M.length (pcl M)
section
variable {W w w' : World} {p mb N K : Nat} {v : Value} {M M' : List Pair} {f f' : Int → Pr}
theorem PR.new (h : PR W w p mb N f v M) (hb : But (fun _ => False) w w') : PR W w' p mb N f v M := ⟨h.live.new hb, ownsRow_but h.row hb (fun _ _ h => h)⟩
theorem PR.turn (h : PR W w p mb N f v M) (hA : LAt w' p mb K f') (hb : But (fun j => j = mb) w w') : PR W w' p mb K f' v M := by
  obtain ⟨n, D, hm, _⟩ := h.live.at_.map
  exact ⟨h.live.turn hA hb, ownsRow_but h.row hb (fun j hj e => own_map_ne h.row hm j hj e)⟩
/- A cell of the list is set. -/
theorem raw_cell {g n cap : Nat} {xs : List Value} (hl : Live W w p mb N f) (h : w.ownsRow W.heap.size 30 3 (.slice (some ⟨g, 0, none⟩) n cap) n xs) (j : Nat) (u : Value) :
    Live W (w.setCell ⟨g, j, none⟩ u) p mb N f ∧ (w.setCell ⟨g, j, none⟩ u).ownsRow W.heap.size 30 3 (.slice (some ⟨g, 0, none⟩) n cap) n (xs.set j u) := by
  have hr := own_cell h j u
  have hb := (But.refl (fun k => k = g) w).setCell (p := ⟨g, j, none⟩) rfl u
  obtain ⟨m, D, hm, _⟩ := hl.at_.map
  have h1 := own_blk_ne h hl.at_.blk (by decide) g rfl
  have h2 := own_map_ne h hm g rfl
  have h3 : W.heap.size ≤ g := by
    rcases h.2 with ⟨e, _⟩ | ⟨g', cap', cur, e, hg, _⟩
    · cases e
    · injection e with e
      injection e with e
      injection e with e
      subst e
      exact hg
  exact ⟨⟨hl.at_.but hb (fun e => h1 e.symm) (fun e => h2 e.symm), hl.low, hl.but.trans hb (fun i hi e => by omega)⟩, hr⟩
theorem PR.cell {g n cap : Nat} (h : PR W w p mb N f (.slice (some ⟨g, 0, none⟩) n cap) M) (hn : n = M.length) (j : Nat) (u : Value) (hM : M'.length = M.length) (he : pcl M' = (pcl M).set j u) : PR W (w.setCell ⟨g, j, none⟩ u) p mb N f (.slice (some ⟨g, 0, none⟩) n cap) M' := by
  subst hn
  obtain ⟨h1, h2⟩ := raw_cell h.live h.row j u
  refine ⟨h1, ?_⟩
  rw [he, hM]
  exact h2
/- One of the list is set. -/
theorem PR.put {g n cap : Nat} (h : PR W w p mb N f (.slice (some ⟨g, 0, none⟩) n cap) M) (hn : n = M.length) {i : Nat} (hi : i < M.length) (y : Pair) : PR W (w.setCells g (i * 3) (pcells y)) p mb N f (.slice (some ⟨g, 0, none⟩) n cap) (M.set i y) := by
  subst hn
  obtain ⟨h1, h2⟩ := raw_cell h.live h.row (i * 3) (.int .i64 y.k)
  obtain ⟨h3, h4⟩ := raw_cell h1 h2 (i * 3 + 1) (.int .i64 (y.a : Int))
  obtain ⟨h5, h6⟩ := raw_cell h3 h4 (i * 3 + 2) (.int .i64 (y.b : Int))
  refine ⟨h5, ?_⟩
  rw [set_flat hi, List.length_set]
  exact h6
theorem PR.there {g n cap : Nat} (h : PR W w p mb N f (.slice (some ⟨g, 0, none⟩) n cap) M) (hn : n = M.length) {i : Nat} (hi : i < M.length) : w.there g (i * 3) 3 := by
  subst hn
  obtain ⟨c0, c1, c2⟩ := row_pair h.row hi
  intro j hj
  refine ⟨?_, row_frozen h.row _⟩
  rcases j with _ | _ | _ | j
  · rw [Nat.add_zero, c0]; rfl
  · rw [c1]; rfl
  · rw [c2]; rfl
  · omega
/- A block that is neither the loads' nor the list's has turned. -/
theorem PR.off {q : Nat} (h : PR W w p mb N f v M) (hb : But (fun j => j = q) w w') (h1 : p ≠ q) (h2 : mb ≠ q) (h3 : ∀ j, v.ownBlock = some j → j ≠ q) (h4 : W.heap.size ≤ q) : PR W w' p mb N f v M :=
  ⟨⟨h.live.at_.but hb h1 h2, h.live.low, h.live.but.trans hb (fun i hi e => by omega)⟩, ownsRow_but h.row hb (fun j hj e => h3 j hj e)⟩
/- The list is appended to. -/
theorem PR.app {v' : Value} {x : Pair} (h : PR W w p mb N f v M) (ho : w'.ownsRow W.heap.size 30 3 v' (M.length + 1) (pcl M ++ pcells x)) (hon : Onto w w' v v') : PR W w' p mb N f v' (M ++ [x]) := by
  obtain ⟨m, D, hm, _⟩ := h.live.at_.map
  have hb := hon.but
  refine ⟨⟨h.live.at_.but hb (fun e => own_blk_ne h.row h.live.at_.blk (by decide) _ e.symm rfl) (fun e => own_map_ne h.row hm _ e.symm rfl), h.live.low, h.live.but.trans hb (fun i hi e => ?_)⟩, ?_⟩
  · have := (h.row.lt i e.symm).1
    omega
  · rw [pcl_snoc, show (M ++ [x]).length = M.length + 1 by simp]; exact ho
theorem own_form {base n size : Nat} {e : TypeId} {xs : List Value} (h : w.ownsRow base e size v n xs) : ∃ a c, v = .slice a n c := by
  rcases h.2 with ⟨rfl, h0⟩ | ⟨g, cap, cur, rfl, _⟩
  · exact ⟨none, 0, by rw [h0]⟩
  · exact ⟨_, cap, rfl⟩
theorem own_some {base n size c : Nat} {e : TypeId} {xs : List Value} {a : Option Addr} (h : w.ownsRow base e size (.slice a n c) n xs) (hn : 0 < n) : ∃ g, a = some ⟨g, 0, none⟩ ∧ base ≤ g ∧ g < w.heap.size := by
  rcases h.2 with ⟨e, h0⟩ | ⟨g, cap, cur, e, hb, hh, _⟩
  · omega
  · injection e with e
    exact ⟨g, e, hb, (Array.getElem?_eq_some_iff.1 hh).1⟩
theorem sees_pair (w : World) (x : Pair) (e : TypeId) (fr : Nat × Nat) (g : Nat) (hg : g = w.heap.size) : Sees (w.alloc (.cells (pcells x).toArray e fr)) 3 (.slice (some ⟨g, 0, none⟩) 1 1) 1 (pcells x) := by
  subst hg
  refine .inr ⟨_, _, rfl, by simp [pcells], fun j u hu => ?_⟩
  refine ⟨by simp, ?_⟩
  rw [add_none, Nat.zero_add, World.cell?_alloc_mark]
  simpa using hu
end
theorem dcells_range {w : World} {g o i : Nat} {l : List Deed} (h : ∀ i (h : i < l.length), ∀ j u, (dcells l[i])[j]? = some u → w.cell? ⟨g, o + i * 4 + j, none⟩ = some u) (hi : i < l.length) : w.rangeAt g (o + i * 4) (dcells l[i]) := fun j v hv => h i hi j v hv
theorem range_but {F : Nat → Prop} {w w' : World} {g o : Nat} {vs : List Value} (h : w.rangeAt g o vs) (hb : But F w w') (hg : g < w.heap.size) (hF : ¬ F g) : w'.rangeAt g o vs := fun j v hv => by
  rw [hb.cell (p := ⟨g, o + j, none⟩) hg hF]; exact h j v hv
def dzero : Deed := ⟨false, 0, 0, 0⟩
def pzero : Pair := ⟨0, 0, 0⟩
theorem wp_store_blk {ops : Array Oper} {op : Oper} {a : Act} {w : World} {K : Act → World → Prop} {Q : Exit → Act → World → Prop} {E : Prop} (hwd : Region.wanted op (yielded ops a.tmps) = true) (ty : TypeId) (x y : Operand) (ho : op.op = .store ty x y)
    (b o : Nat) (vs : List Value) (hx : a.eval x = .pointer (some ⟨b, o, none⟩)) (hy : a.eval y = .agg vs.toArray)
    (ht : w.there b o vs.length) (hi : (Try.prog.info? ty).map (·.size) = some vs.length) (h1 : ∀ v ∈ vs, v.oneCell' = true)
    (h : K (a.put op.dst undef) (w.setCells b o vs)) : if Region.wanted op (yielded ops a.tmps) = true then Oper.wp Try.prog op a w K Q else E := by
  rw [if_pos hwd]
  exact wp_store_mid ty x y ho b o vs.toArray hx hy (by simpa using ht) (by simpa using hi) (all_oneCell_toArray h1) (by simpa using h)
/- The law leaves at once: too many deeds. -/
set_option maxRecDepth 100000 in
set_option maxHeartbeats 1000000 in
theorem plays_away {W : World} {a : Option Addr} {n c : Nat} (h : 150 < n) (hn : n ≤ 9223372036854775807) :
    Calls Try.prog 3 #[.slice a n c] W fun e w' => e = .returned (.bool true) ∧ But (fun _ => False) W w' := by
  have HU := Lib.hid (up_any W)
  have HN := Lib.hid ld_new
  have h1 : (150 : Int) < (n : Int) := by omega
  clear h
  go_enter Try.func3, Try.ntmps3
  go_wp2_with fail
  refine HU.out.mono ?_
  rintro e w1 ⟨rfl, hB⟩
  have HB := Lib.hid hB
  clear hB
  go_wp2_with fail
  refine (HN.out w1).mono ?_
  rintro e w2 ⟨p, mb, rfl, hA, hl, hB⟩
  have HB := Lib.hid (HB.out.trans' hB)
  clear hB hA hl
  go_wp2_with fail
  go_ret
  exact ⟨rfl, HB.out⟩
end Go.Proofs.Ytomeehecegehbaa.Ld

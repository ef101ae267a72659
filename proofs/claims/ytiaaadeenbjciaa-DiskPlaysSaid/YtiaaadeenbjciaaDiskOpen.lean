/- A slice of deeds that came in, opened to its cells. -/
import Derived.Test.YtiaaadeenbjciaaDiskKept
import Derived.Deep.Slices
import Derived.Deep.Fields
import Derived.ChangeSame
import Derived.ProofKit
import Derived.OpenShut
import Derived.ShutString
namespace Go.Proofs.Ytiaaadeenbjciaa.Disk
open Go.Proofs.Ytiaaadeenbjciaa.Mem
open Go.ChangeShapes Go.WideShapes Go.ChangeAt Go.RowKit Go.Deep
open Go.ChangeMaps (open_string shut_string)
set_option linter.unusedVariables false
/- Of a struct of one-cell fields that was read from cells in memory: each field's cell, and that it reads as the field's type. -/
theorem field_read {H : Type} {enc : TypeId × Value → H} {P : Program} {w : World} {base : Nat} {spare : Nat → Bool} {held : Bool} {e : TypeId} {fs : Array Field} {m : Nat} {cs : List Value} {z : DataW H × List MemPlace} {b : Addr}
    (he : P.underlying e = some (.struct fs)) (hone : oneCellFields P fs = true) (hr : DataW.trod enc P w base spare held m e cs = some z) (hc : w.cells? base b fs.size = some cs) :
    ∃ n, ∀ j f, fs[j]? = some f → ∃ v y, w.cell? (b.add j) = some v ∧ DataW.trod enc P w base spare held n f.type [v] = some y := by
  obtain ⟨ys, n, _, _, _, hlen, hall⟩ := DataW.trod_struct he hr
  obtain ⟨_, hsize, hcells⟩ := World.cells?_some hc
  refine ⟨n, fun j f hj => ?_⟩
  have hlt : j < fs.size := (Array.getElem?_eq_some_iff.1 hj).1
  obtain ⟨h1, h2⟩ := hone_of hone j f hj
  have hread := hall j f hj
  have hcut : (cs.drop j).take 1 = [cs[j]'(by omega)] := by rw [List.drop_eq_getElem_cons (by omega), List.take_succ_cons, List.take_zero]
  rw [h1, h2, hcut] at hread
  refine ⟨cs[j]'(by omega), ys[j]'(by omega), ?_, ?_⟩
  · rw [hcells j hlt]; exact List.getElem?_eq_getElem _
  · rw [hread]; exact List.getElem?_eq_getElem _
section
variable {H : Type} {enc : TypeId × Value → H} {w : World}
theorem wf64 {n : Int} (h : (Lit.int .i64 n).wf = true) : -9223372036854775808 ≤ n ∧ n ≤ 9223372036854775807 := by
  simpa [Lit.wf, IntKind.min, IntKind.max, IntKind.signed, IntKind.bits] using h
theorem row_of_trod {fuel : Nat} {v : Value} {y : DataW H × List MemPlace} (h : DataW.trod enc Try.prog w 0 (fun _ => true) true fuel 30 [v] = some y) :
    ∃ a len cap zs, v = .slice a len cap ∧ Row w a len zs ∧ (a = none → cap = 0) ∧ len ≤ cap ∧ cap ≤ maxLen ∧ ∀ q, a = some q → 0 < len → q.block < w.heap.size := by
  rcases open_ints Try.underlying30 Try.underlying5 (by kernel_rfl) h with ⟨hcs, _⟩ | ⟨x, l, c, zs, hcs, _, hl, hm, hz, _, hcell, hwz⟩
  · injection hcs with hv _
    exact ⟨none, 0, 0, [], hv, Row.nil, fun _ => rfl, Nat.le_refl _, Nat.zero_le _, fun q hq => by cases hq⟩
  · injection hcs with hv _
    obtain ⟨h1, h2, h3⟩ := row_of_cells (w := w) (a := some x) (len := l) (cap := c) (zs := zs) (.inr ⟨x, rfl, hl, hm, by simpa using hz, hcell, hwz⟩)
    refine ⟨some x, l, c, zs.take l, hv, h1, h3, hl, hm, fun q hq hn => ?_⟩
    obtain ⟨b, o, e1, e2, _⟩ := h1.2.2 hn
    rw [e1] at hq
    injection hq with hq
    subst hq
    exact e2
theorem deeds_of {fuel : Nat} {v : Value} {y : DataW H × List MemPlace} (h : DataW.trod enc Try.prog w 0 (fun _ => true) true fuel 22 [v] = some y) :
    ∃ a len cap, v = .slice a len cap ∧ Deeds w w.heap.size a len ∧ len ≤ cap ∧ cap ≤ maxLen := by
  have hsz : Try.prog.cellsOf 32 = 6 := by kernel_rfl
  rcases open_slice Try.underlying22 h with ⟨hcs, _⟩ | ⟨x, l, c, m, n0, D, Pl, hcs, _, hl, hm, hmm, _, hi⟩
  · injection hcs with hv _
    exact ⟨none, 0, 0, hv, fun hn => absurd hn (by omega), Nat.le_refl _, Nat.zero_le _⟩
  · injection hcs with hv _
    obtain ⟨fs, hU, hone, hsize, htypes⟩ : ∃ fs : Array Field, Try.prog.underlying 32 = some (.struct fs) ∧ oneCellFields Try.prog fs = true ∧ fs.size = 6 ∧ fs.map (fun f => f.type) = #[3, 9, 9, 30, 3, 3] :=
      ⟨_, Try.underlying32, by kernel_rfl, rfl, by simp⟩
    have hfld : ∀ i, i < m → ∃ n, ∀ (j : Nat) (t : TypeId), (#[3, 9, 9, 30, 3, 3] : Array TypeId)[j]? = some t → ∃ v y, w.cell? ((x.add (i * 6)).add j) = some v ∧ DataW.trod enc Try.prog w 0 (fun _ => true) true n t [v] = some y := by
      intro i hi2
      obtain ⟨cs, hc, hr⟩ := hi i hi2
      rw [hsz] at hc
      obtain ⟨n, hn⟩ := field_read hU hone hr (by rw [hsize]; exact hc)
      refine ⟨n, fun j t hj => ?_⟩
      rw [← htypes, Array.getElem?_map] at hj
      obtain ⟨f, hf, rfl⟩ := Option.map_eq_some_iff.1 hj
      exact hn j f hf
    refine ⟨some x, l, c, hv, fun hn => ?_, hl, hm⟩
    have hmm' : m = c := by simpa using hmm
    have hx : ∃ b off, x = ⟨b, off, none⟩ ∧ b < w.heap.size := by
      obtain ⟨n, hf⟩ := hfld 0 (by omega)
      obtain ⟨v0, y0, c0, _⟩ := hf 0 _ rfl
      obtain ⟨b, off, spot⟩ := x
      have hspot : spot = none := by simpa [Addr.add] using World.cell?_spot c0
      subst hspot
      exact ⟨b, off, rfl, block_lt_of_cell (a := ⟨b, off, none⟩) (by simpa [Addr.add] using c0)⟩
    obtain ⟨b, off, rfl, hlt⟩ := hx
    refine ⟨b, off, rfl, hlt, fun i hil => ?_⟩
    obtain ⟨n, hf⟩ := hfld i (by omega)
    obtain ⟨v0, y0, c0, t0⟩ := hf 0 _ rfl
    obtain ⟨v1, y1, c1, t1⟩ := hf 1 _ rfl
    obtain ⟨v2, y2, c2, t2⟩ := hf 2 _ rfl
    obtain ⟨v3, y3, c3, t3⟩ := hf 3 _ rfl
    obtain ⟨v4, y4, c4, t4⟩ := hf 4 _ rfl
    obtain ⟨v5, y5, c5, t5⟩ := hf 5 _ rfl
    obtain ⟨n0, e0, _, w0⟩ := DataW.trod_int Try.underlying3 t0
    obtain ⟨s1, e1, _, w1⟩ := DataW.trod_string Try.underlying9 t1
    obtain ⟨s2, e2, _, w2⟩ := DataW.trod_string Try.underlying9 t2
    obtain ⟨ba, bl, bc, bs, e3, hrow, hnil, hblc, hbcm, hlow⟩ := row_of_trod t3
    obtain ⟨n4, e4, _, w4⟩ := DataW.trod_int Try.underlying3 t4
    obtain ⟨n5, e5, _, w5⟩ := DataW.trod_int Try.underlying3 t5
    injection e0 with e0
    injection e1 with e1
    injection e2 with e2
    injection e4 with e4
    injection e5 with e5
    subst e0 e1 e2 e3 e4 e5
    simp only [add_none] at c0 c1 c2 c3 c4 c5
    have hmx : maxLen = 9223372036854775807 := rfl
    exact ⟨⟨n0, s1, s2, ba, bl, bc, bs, n4, n5⟩, by simpa using c0, c1, c2, c3, c4, c5, hrow, hnil, hlow, by rw [← hmx]; exact w1, by rw [← hmx]; exact w2, by show bl ≤ maxLen; exact Nat.le_trans hblc hbcm, wf64 w0, wf64 w4, wf64 w5⟩
end
end Go.Proofs.Ytiaaadeenbjciaa.Disk

/- Deeds that came in. -/
import Derived.Test.YtomeehecegehbaaLdMem
import Derived.Test.YtomeehecegehbaaLdAt
import Derived.Deep.Slices
import Derived.Deep.Fields
import Derived.ChangeSame
import Derived.OpenShut
import Derived.ShutString
namespace Go.Proofs.Ytomeehecegehbaa.Ld
open Go.Proofs.Ytomeehecegehbaa.Mem
open Go.Deep Go.ChangeShapes Go.WideShapes Go.ChangeAt Go.RowKit
set_option linter.unusedVariables false
set_option linter.unusedSimpArgs false
structure Deed where
  drop : Bool
  b : Int
  x : Int
  y : Int
def dcells (x : Deed) : List Value := [.bool x.drop, .int .i64 x.b, .int .i64 x.x, .int .i64 x.y]
theorem dcells_length (x : Deed) : (dcells x).length = 4 := rfl
structure OkD (d : Deed) : Prop where
  hb : I64 d.b
  hx : I64 d.x
  hy : I64 d.y
structure Deeds (w : World) (a : Option Addr) (l : List Deed) : Prop where
  is_ : ∀ x ∈ l, OkD x
  at_ : 0 < l.length → ∃ g o, a = some ⟨g, o, none⟩ ∧ g < w.heap.size ∧ ∀ i (h : i < l.length), ∀ j u, (dcells l[i])[j]? = some u → w.cell? ⟨g, o + i * 4 + j, none⟩ = some u
theorem of_wf {n : Int} (h : (Lit.int .i64 n).wf = true) : I64 n := by
  have : (-9223372036854775808 : Int) ≤ n ∧ n ≤ 9223372036854775807 := by simpa [Lit.wf, IntKind.min, IntKind.max, IntKind.signed, IntKind.bits] using h
  exact this
theorem list4 {α : Type} {l : List α} (h : l.length = 4) : ∃ y0 y1 y2 y3, l = [y0, y1, y2, y3] := by
  rcases l with _ | ⟨a, _ | ⟨b, _ | ⟨c, _ | ⟨d, _ | ⟨e, r⟩⟩⟩⟩⟩ <;> simp at h
  exact ⟨a, b, c, d, rfl⟩
section
variable {H : Type} {enc : TypeId × Value → H} {w : World} {spare : Nat → Bool} {held : Bool}
set_option maxRecDepth 100000 in
theorem deed_read {fuel : Nat} {cs : List Value} {z : DataW H × List MemPlace} (h : DataW.trod enc Try.prog w 0 spare held fuel 28 cs = some z) : ∃ d : Deed, cs = dcells d ∧ OkD d := by
  have k_int : Try.prog.cellsOf 3 = 1 := by kernel_rfl
  have k_i64 : Try.prog.cellsOf 2 = 1 := by kernel_rfl
  have k_bool : Try.prog.cellsOf 4 = 1 := by kernel_rfl
  have k_r : Try.prog.cellsOf 28 = 4 := by kernel_rfl
  obtain ⟨xs, n, _, _, hcl, hlen, hall⟩ := DataW.trod_struct Try.underlying28 h
  rw [k_r] at hcl
  clear h
  obtain ⟨v0, v1, v2, v3, rfl⟩ := list4 hcl
  match xs, hlen with
  | [y0, y1, y2, y3], _ =>
    have h0 := hall 0 _ rfl
    have h1 := hall 1 _ rfl
    have h2 := hall 2 _ rfl
    have h3 := hall 3 _ rfl
    clear hall
    simp [k_int, k_i64, k_bool] at h0 h1 h2 h3
    obtain ⟨n0, e0, _⟩ := DataW.trod_bool Try.underlying4 h0
    injection e0 with e0
    subst e0
    obtain ⟨n1, e1, _, w1⟩ := DataW.trod_int Try.underlying3 h1
    injection e1 with e1
    subst e1
    obtain ⟨n2, e2, _, w2⟩ := DataW.trod_int Try.underlying2 h2
    injection e2 with e2
    subst e2
    obtain ⟨n3, e3, _, w3⟩ := DataW.trod_int Try.underlying2 h3
    injection e3 with e3
    subst e3
    exact ⟨⟨n0, n1, n2, n3⟩, rfl, ⟨of_wf w1, of_wf w2, of_wf w3⟩⟩
set_option maxRecDepth 100000 in
theorem deeds_read {fuel : Nat} {v : Value} {y : DataW H × List MemPlace} (h : DataW.trod enc Try.prog w 0 (fun _ => true) true fuel 22 [v] = some y) :
    ∃ (a : Option Addr) (l : List Deed) (cap : Nat), v = .slice a l.length cap ∧ Deeds w a l ∧ l.length ≤ cap ∧ cap ≤ maxLen := by
  have hsz : Try.prog.cellsOf 28 = 4 := by kernel_rfl
  rcases open_slice Try.underlying22 h with ⟨hcs, _⟩ | ⟨x, len, c, m, n0, D, Pl, hcs, _, hl, hm, hmm, _, hi⟩
  · injection hcs with hv _
    exact ⟨none, [], 0, hv, ⟨fun _ h => by (simp at h), fun h => by (simp at h)⟩, Nat.le_refl _, Nat.zero_le _⟩
  · injection hcs with hv _
    have hmm' : m = c := by simpa using hmm
    have hall : ∀ i, ∃ r : Deed, i < len → (OkD r ∧ ∀ j u, (dcells r)[j]? = some u → w.cell? ((x.add (i * 4)).add j) = some u) := by
      intro i
      by_cases hil : i < len
      · obtain ⟨cs, hc, hr⟩ := hi i (by omega)
        rw [hsz] at hc
        obtain ⟨r, rfl, hir⟩ := deed_read hr
        obtain ⟨_, hsize, hcells⟩ := World.cells?_some hc
        refine ⟨r, fun _ => ⟨hir, fun j u hu => ?_⟩⟩
        have hj : j < 4 := by rw [← dcells_length r]; exact (List.getElem?_eq_some_iff.1 hu).1
        rw [hcells j hj]
        simpa using hu
      · exact ⟨⟨false, 0, 0, 0⟩, fun h => absurd h hil⟩
    obtain ⟨f, hf⟩ := Classical.skolem.1 hall
    have hlen : ((List.range len).map f).length = len := by simp
    refine ⟨some x, (List.range len).map f, c, by rw [hlen]; exact hv, ⟨fun r hr => ?_, fun hn => ?_⟩, by rw [hlen]; exact hl, hm⟩
    · obtain ⟨i, hir, rfl⟩ := List.mem_map.1 hr
      exact (hf i (List.mem_range.1 hir)).1
    · rw [hlen] at hn
      obtain ⟨b, off, spot⟩ := x
      have h0 := (hf 0 hn).2 0 _ rfl
      have hspot : spot = none := by simpa [Addr.add] using World.cell?_spot h0
      subst hspot
      refine ⟨b, off, rfl, block_lt_of_cell (a := ⟨b, off, none⟩) (by simpa [Addr.add] using h0), fun i hil j u hu => ?_⟩
      rw [hlen] at hil
      have h1 := (hf i hil).2 j u (by simpa using hu)
      rw [add_none, add_none] at h1
      exact h1
end
/- The cells of deed i, in a world that has what came in. -/
theorem Deeds.get {W wr : World} {a : Option Addr} {l : List Deed} (h : Deeds W a l) (hb : But (fun _ => False) W wr) {i : Nat} (hi : i < l.length) : ∃ g o, a = some ⟨g, o, none⟩ ∧
    wr.cell? ⟨g, o + i * 4, none⟩ = some (.bool l[i].drop) ∧ wr.cell? ⟨g, o + i * 4 + 1, none⟩ = some (.int .i64 l[i].b) ∧ wr.cell? ⟨g, o + i * 4 + 2, none⟩ = some (.int .i64 l[i].x) ∧ wr.cell? ⟨g, o + i * 4 + 3, none⟩ = some (.int .i64 l[i].y) := by
  obtain ⟨g, o, ha, hg, hc⟩ := h.at_ (by omega)
  have h0 : ∀ j u, (dcells l[i])[j]? = some u → wr.cell? ⟨g, o + i * 4 + j, none⟩ = some u := fun j u hu => by
    rw [hb.cell (p := ⟨g, o + i * 4 + j, none⟩) hg (fun h => h)]
    exact hc i hi j u hu
  exact ⟨g, o, ha, h0 0 _ rfl, h0 1 _ rfl, h0 2 _ rfl, h0 3 _ rfl⟩
end Go.Proofs.Ytomeehecegehbaa.Ld

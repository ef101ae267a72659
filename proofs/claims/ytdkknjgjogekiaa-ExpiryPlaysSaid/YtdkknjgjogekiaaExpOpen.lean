/- Items, and deeds, that came in. -/
import Derived.Test.YtdkknjgjogekiaaExpSorts
import Derived.Deep.Slices
import Derived.Deep.Fields
import Derived.ChangeSame
import Derived.OpenShut
import Derived.ShutString
namespace Go.Proofs.Ytdkknjgjogekiaa.Exp
open Go.Proofs.Ytdkknjgjogekiaa.Mem
open Go.Deep Go.ChangeShapes Go.WideShapes Go.ChangeAt Go.RowKit
set_option linter.unusedVariables false
set_option linter.unusedSimpArgs false
theorem list_succ {α : Type} {l : List α} {n : Nat} (h : l.length = n + 1) : ∃ a r, l = a :: r ∧ r.length = n := by
  cases l with
  | nil => cases h
  | cons a r => exact ⟨a, r, rfl, by simpa using h⟩
theorem wfu64 {n : Int} (h : (Lit.int .u64 n).wf = true) : ∃ k : Nat, n = (k : Int) ∧ k < 18446744073709551616 := by
  have : 0 ≤ n ∧ n ≤ 18446744073709551615 := by simpa [Lit.wf, IntKind.min, IntKind.max, IntKind.signed, IntKind.bits] using h
  exact ⟨n.toNat, by omega, by omega⟩
section
variable {H : Type} {enc : TypeId × Value → H} {w : World} {spare : Nat → Bool} {held : Bool}
set_option maxRecDepth 100000 in
theorem item_read {fuel : Nat} {cs : List Value} {z : DataW H × List MemPlace} (h : DataW.trod enc Try.prog w 0 spare held fuel 29 cs = some z) : ∃ x : It, cs = icells x ∧ Ok x := by
  have k_uint64 : Try.prog.cellsOf 27 = 1 := by kernel_rfl
  have k_string : Try.prog.cellsOf 9 = 1 := by kernel_rfl
  have k_r : Try.prog.cellsOf 29 = 2 := by kernel_rfl
  obtain ⟨xs, n, _, _, hcl, hlen, hall⟩ := DataW.trod_struct Try.underlying29 h
  rw [k_r] at hcl
  clear h
  obtain ⟨v0, r0, rfl, h0⟩ := list_succ hcl
  obtain ⟨v1, r1, rfl, h1⟩ := list_succ h0
  obtain rfl := List.eq_nil_of_length_eq_zero h1
  match xs, hlen with
  | [y0, y1], _ =>
    have h0 := hall 0 _ rfl
    have h1 := hall 1 _ rfl
    clear hall
    simp [k_uint64, k_string] at h0 h1
    obtain ⟨n2, e2, _, w2⟩ := DataW.trod_int Try.underlying27 h0
    injection e2 with e2
    subst e2
    obtain ⟨n2, rfl, g2⟩ := wfu64 w2
    obtain ⟨s, e0, _, w0⟩ := DataW.trod_string Try.underlying9 h1
    injection e0 with e0
    subst e0
    exact ⟨⟨n2, s⟩, rfl, ⟨g2, w0⟩⟩
theorem items_read {fuel : Nat} {v : Value} {y : DataW H × List MemPlace} (h : DataW.trod enc Try.prog w 0 (fun _ => true) true fuel 38 [v] = some y) :
    ∃ (a : Option Addr) (l : List It) (cap : Nat), v = .slice a l.length cap ∧ Came w a l ∧ l.length ≤ cap ∧ cap ≤ maxLen := by
  have hsz : Try.prog.cellsOf 29 = 2 := by kernel_rfl
  rcases open_slice Try.underlying38 h with ⟨hcs, _⟩ | ⟨x, len, c, m, n0, D, Pl, hcs, _, hl, hm, hmm, _, hi⟩
  · injection hcs with hv _
    exact ⟨none, [], 0, hv, ⟨fun _ h => by (simp at h), fun h => by (simp at h)⟩, Nat.le_refl _, Nat.zero_le _⟩
  · injection hcs with hv _
    have hmm' : m = c := by simpa using hmm
    have hall : ∀ i, ∃ r : It, i < len → (Ok r ∧ ∀ j u, (icells r)[j]? = some u → w.cell? ((x.add (i * 2)).add j) = some u) := by
      intro i
      by_cases hil : i < len
      · obtain ⟨cs, hc, hr⟩ := hi i (by omega)
        rw [hsz] at hc
        obtain ⟨r, rfl, hir⟩ := item_read hr
        obtain ⟨_, hsize, hcells⟩ := World.cells?_some hc
        refine ⟨r, fun _ => ⟨hir, fun j u hu => ?_⟩⟩
        have hj : j < 2 := by rw [← icells_length r]; exact (List.getElem?_eq_some_iff.1 hu).1
        rw [hcells j hj]
        simpa using hu
      · exact ⟨nil, fun h => absurd h hil⟩
    obtain ⟨f, hf⟩ := Classical.skolem.1 hall
    have hlen : ((List.range len).map f).length = len := by simp
    have hlk : ∀ i, i < len → look ((List.range len).map f) i = f i := fun i hi => by
      rw [look_get (by rw [hlen]; exact hi)]; simp
    refine ⟨some x, (List.range len).map f, c, by rw [hlen]; exact hv, ⟨fun r hr => ?_, fun hn => ?_⟩, by rw [hlen]; exact hl, hm⟩
    · obtain ⟨i, hir, rfl⟩ := List.mem_map.1 hr
      exact (hf i (List.mem_range.1 hir)).1
    · rw [hlen] at hn
      obtain ⟨b, off, spot⟩ := x
      have h0 := (hf 0 hn).2 0 _ rfl
      have hspot : spot = none := by simpa [Addr.add] using World.cell?_spot h0
      subst hspot
      refine ⟨b, off, rfl, block_lt_of_cell (a := ⟨b, off, none⟩) (by simpa [Addr.add] using h0), fun i hil j u hu => ?_⟩
      rw [hlen] at hil
      rw [hlk i hil] at hu
      have h1 := (hf i hil).2 j u hu
      rw [add_none, add_none] at h1
      exact h1
end
end Go.Proofs.Ytdkknjgjogekiaa.Exp

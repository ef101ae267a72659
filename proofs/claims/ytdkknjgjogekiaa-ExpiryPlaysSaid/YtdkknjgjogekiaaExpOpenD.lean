/- Deeds that came in. -/
import Derived.Test.YtdkknjgjogekiaaExpPlays
import Derived.Test.YtdkknjgjogekiaaExpOpen
namespace Go.Proofs.Ytdkknjgjogekiaa.Exp
open Go.Proofs.Ytdkknjgjogekiaa.Mem
open Go.Deep Go.ChangeShapes Go.WideShapes Go.ChangeAt Go.RowKit
set_option linter.unusedVariables false
set_option linter.unusedSimpArgs false
theorem wf64 {n : Int} (h : (Lit.int .i64 n).wf = true) : -9223372036854775808 ≤ n ∧ n ≤ 9223372036854775807 := by
  simpa [Lit.wf, IntKind.min, IntKind.max, IntKind.signed, IntKind.bits] using h
section
variable {H : Type} {enc : TypeId × Value → H} {w : World} {spare : Nat → Bool} {held : Bool}
set_option maxRecDepth 100000 in
theorem deed_read {fuel : Nat} {cs : List Value} {z : DataW H × List MemPlace} (h : DataW.trod enc Try.prog w 0 spare held fuel 31 cs = some z) : ∃ d : Deed, cs = dcells d ∧ OkD d := by
  have k_int : Try.prog.cellsOf 3 = 1 := by kernel_rfl
  have k_item : Try.prog.cellsOf 29 = 2 := by kernel_rfl
  have k_r : Try.prog.cellsOf 31 = 3 := by kernel_rfl
  obtain ⟨xs, n, _, _, hcl, hlen, hall⟩ := DataW.trod_struct Try.underlying31 h
  rw [k_r] at hcl
  clear h
  obtain ⟨v0, r0, rfl, h0⟩ := list_succ hcl
  match xs, hlen with
  | [y0, y1], _ =>
    have h0' := hall 0 _ rfl
    have h1' := hall 1 _ rfl
    clear hall
    simp [k_int] at h0'
    obtain ⟨n0, e0, _, w0⟩ := DataW.trod_int Try.underlying3 h0'
    injection e0 with e0
    subst e0
    have g0 := wf64 w0
    simp [k_item] at h1'
    rw [List.take_of_length_le (by omega)] at h1'
    obtain ⟨x, rfl, hx⟩ := item_read h1'
    exact ⟨⟨n0, x⟩, rfl, ⟨g0, hx⟩⟩
theorem deeds_read {fuel : Nat} {v : Value} {y : DataW H × List MemPlace} (h : DataW.trod enc Try.prog w 0 (fun _ => true) true fuel 22 [v] = some y) :
    ∃ (a : Option Addr) (l : List Deed) (cap : Nat), v = .slice a l.length cap ∧ CameD w a l ∧ l.length ≤ cap ∧ cap ≤ maxLen := by
  have hsz : Try.prog.cellsOf 31 = 3 := by kernel_rfl
  rcases open_slice Try.underlying22 h with ⟨hcs, _⟩ | ⟨x, len, c, m, n0, D, Pl, hcs, _, hl, hm, hmm, _, hi⟩
  · injection hcs with hv _
    exact ⟨none, [], 0, hv, ⟨fun _ h => by (simp at h), fun h => by (simp at h)⟩, Nat.le_refl _, Nat.zero_le _⟩
  · injection hcs with hv _
    have hmm' : m = c := by simpa using hmm
    have hall : ∀ i, ∃ r : Deed, i < len → (OkD r ∧ ∀ j u, (dcells r)[j]? = some u → w.cell? ((x.add (i * 3)).add j) = some u) := by
      intro i
      by_cases hil : i < len
      · obtain ⟨cs, hc, hr⟩ := hi i (by omega)
        rw [hsz] at hc
        obtain ⟨r, rfl, hir⟩ := deed_read hr
        obtain ⟨_, hsize, hcells⟩ := World.cells?_some hc
        refine ⟨r, fun _ => ⟨hir, fun j u hu => ?_⟩⟩
        have hj : j < 3 := by rw [← dcells_length r]; exact (List.getElem?_eq_some_iff.1 hu).1
        rw [hcells j hj]
        simpa using hu
      · exact ⟨dnil, fun h => absurd h hil⟩
    obtain ⟨f, hf⟩ := Classical.skolem.1 hall
    have hlen : ((List.range len).map f).length = len := by simp
    have hlk : ∀ i, i < len → dlook ((List.range len).map f) i = f i := fun i hi => by
      simp [dlook, List.getD, hi]
    refine ⟨some x, (List.range len).map f, c, by rw [hlen]; exact hv, ⟨fun r hr => ?_, fun hn => ?_⟩, by rw [hlen]; exact hl, hm⟩
    · obtain ⟨i, hir, rfl⟩ := List.mem_map.1 hr
      exact (hf i (List.mem_range.1 hir)).1
    · rw [hlen] at hn
      obtain ⟨b, off, spot⟩ := x
      have h0 := (hf 0 hn).2 0 _ rfl
      have hspot : spot = none := by simpa [Addr.add] using World.cell?_spot h0
      subst hspot
      refine ⟨b, off, rfl, block_lt_of_cell (a := ⟨b, off, none⟩) (by simpa [Addr.add] using h0), fun i hil j u hu => ?_⟩
      rw [hlen] at hil
      rw [hlk i hil] at hu
      have h1 := (hf i hil).2 j u hu
      rw [add_none, add_none] at h1
      exact h1
end
end Go.Proofs.Ytdkknjgjogekiaa.Exp

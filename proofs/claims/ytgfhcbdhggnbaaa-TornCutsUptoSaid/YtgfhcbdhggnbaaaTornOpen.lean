/- Lists of records that came in, opened to their cells, with what the bound of the second form says of their lengths. -/
import Derived.Test.YtgfhcbdhggnbaaaRows
import Derived.Test.YtgfhcbdhggnbaaaRecOpen
import Derived.Test.YtgfhcbdhggnbaaaTornMore
import Derived.Deep.Slices
namespace Go.Proofs.Ytgfhcbdhggnbaaa.Torn
open Go.Proofs.Ytgfhcbdhggnbaaa.Mem Go.Proofs.Ytgfhcbdhggnbaaa.Err
open Go.Proofs.Ytgfhcbdhggnbaaa.Rec (Rcd Is Recs recs_read)
open Go.Deep Go.ChangeShapes Go.WideShapes Go.ChangeAt Go.RowKit
set_option linter.unusedVariables false
set_option linter.unusedSimpArgs false

section
variable {H : Type}
theorem bulk_part {d : DataW H} {l : List (DataW H)} (h : d ∈ l) : Rows.uptoBulk d ≤ Rows.uptoBulkAll l := by
  induction l with
  | nil => cases h
  | cons x r ih =>
    simp only [Rows.uptoBulkAll]
    rcases List.mem_cons.1 h with h | h
    · rw [h]; omega
    · have := ih h
      omega
theorem bulk_each {k : Nat} {l : List (DataW H)} (h : ∀ d ∈ l, k ≤ Rows.uptoBulk d) : l.length * k ≤ Rows.uptoBulkAll l := by
  induction l with
  | nil => simp
  | cons x r ih =>
    have h1 := h x List.mem_cons_self
    have h2 := ih (fun d hd => h d (List.mem_cons_of_mem _ hd))
    simp only [Rows.uptoBulkAll, List.length_cons, Nat.succ_mul]
    omega
theorem bulk_pos (d : DataW H) : 1 ≤ Rows.uptoBulk d := by
  cases d with
  | lit l => cases l <;> simp [Rows.uptoBulk]
  | nil => simp [Rows.uptoBulk]
  | ptr d => simp [Rows.uptoBulk]
  | slice elems spare => simp [Rows.uptoBulk]
  | agg parts => simp [Rows.uptoBulk]
  | iface t d => simp [Rows.uptoBulk]
  | map entries => simp [Rows.uptoBulk]
  | held h => simp [Rows.uptoBulk]
variable {enc : TypeId × Value → H} {w : World}
/- A slice of records holds thirteen at the least for each. -/
theorem recs_bulk {fuel : Nat} {a : Option Addr} {n cap : Nat} {y : DataW H × List MemPlace} (h : DataW.trod enc Try.prog w 0 (fun _ => true) true fuel 35 [.slice a n cap] = some y) : n * 13 ≤ Rows.uptoBulk y.1 := by
  rcases open_slice Try.underlying35 h with ⟨hcs, _⟩ | ⟨x, len, c, m, n0, D, Pl, hcs, _, hl, hm, hmm, rfl, hi⟩
  · injection hcs with hv _
    injection hv with h1 h2 h3
    subst h2
    omega
  · injection hcs with hv _
    injection hv with h1 h2 h3
    subst h2
    have hmm' : m = c := by simpa using hmm
    have hall : ∀ d ∈ (List.range n).map D, 13 ≤ Rows.uptoBulk d := by
      intro d hd
      obtain ⟨i, hir, rfl⟩ := List.mem_map.1 hd
      have hin := List.mem_range.1 hir
      obtain ⟨cs, _, hr⟩ := hi i (by omega)
      obtain ⟨xs, k, _, hx, _, hlen, _⟩ := DataW.trod_struct Try.underlying56 hr
      have h12 : xs.length = 12 := hlen
      injection hx with hx _
      rw [hx]
      have h1 := bulk_each (k := 1) (l := xs.map (·.1)) (fun d _ => bulk_pos d)
      simp only [Rows.uptoBulk, List.length_map] at h1 ⊢
      omega
    have h2 := bulk_each hall
    rw [List.length_map, List.length_range] at h2
    simp only [Rows.uptoBulk]
    omega
theorem lists_read {fuel : Nat} {v : Value} {y : DataW H × List MemPlace} (h : DataW.trod enc Try.prog w 0 (fun _ => true) true fuel 32 [v] = some y) :
    ∃ (a : Option Addr) (gs : List Lg) (cap : Nat), v = .slice a gs.length cap ∧ Lists w a gs ∧ gs.length ≤ cap ∧ cap ≤ maxLen ∧ ∀ g ∈ gs, g.l.length * 13 ≤ Rows.uptoBulk y.1 := by
  have hsz : Try.prog.cellsOf 35 = 1 := by kernel_rfl
  rcases open_slice1 Try.underlying32 hsz h with ⟨hcs, _⟩ | ⟨x, len, c, m, n0, V, D, Pl, hcs, _, hl, hm, hmm, rfl, hi⟩
  · injection hcs with hv _
    exact ⟨none, [], 0, hv, ⟨fun g hg => absurd hg List.not_mem_nil, fun h => absurd h (by simp)⟩, Nat.le_refl _, Nat.zero_le _, fun g hg => absurd hg List.not_mem_nil⟩
  · injection hcs with hv _
    have hmm' : m = c := by simpa using hmm
    have hall : ∀ i, ∃ g : Lg, i < len → (V i = .slice g.a g.l.length g.cap ∧ Recs w g.a g.l ∧ g.l.length * 13 ≤ Rows.uptoBulk (D i)) := by
      intro i
      by_cases hil : i < len
      · obtain ⟨hc, hr⟩ := hi i (by omega)
        obtain ⟨a, l, cap, hvi, hrc, _, _⟩ := recs_read hr
        rw [hvi] at hr
        exact ⟨⟨a, cap, l⟩, fun _ => ⟨hvi, hrc, recs_bulk hr⟩⟩
      · exact ⟨⟨none, 0, []⟩, fun h => absurd h hil⟩
    obtain ⟨f, hf⟩ := Classical.skolem.1 hall
    have hlen : ((List.range len).map f).length = len := by simp
    refine ⟨some x, (List.range len).map f, c, by rw [hlen]; exact hv, ⟨fun g hg => ?_, fun hn => ?_⟩, by rw [hlen]; exact hl, hm, fun g hg => ?_⟩
    · obtain ⟨i, hir, rfl⟩ := List.mem_map.1 hg
      exact (hf i (List.mem_range.1 hir)).2.1
    · rw [hlen] at hn
      obtain ⟨b, off, spot⟩ := x
      have h0 := (hi 0 (by omega)).1
      have hspot : spot = none := by simpa [Addr.add] using World.cell?_spot h0
      subst hspot
      refine ⟨b, off, rfl, block_lt_of_cell (a := ⟨b, off, none⟩) (by simpa [Addr.add] using h0), fun i hil => ?_⟩
      rw [hlen] at hil
      have h1 := (hi i (by omega)).1
      rw [add_none, (hf i hil).1] at h1
      rw [h1]
      simp
    · obtain ⟨i, hir, rfl⟩ := List.mem_map.1 hg
      have hin := List.mem_range.1 hir
      have h1 := (hf i hin).2.2
      have h2 : Rows.uptoBulk (D i) ≤ Rows.uptoBulkAll ((List.range len).map D) := bulk_part (List.mem_map_of_mem hir)
      simp only [Rows.uptoBulk]
      omega
end
end Go.Proofs.Ytgfhcbdhggnbaaa.Torn

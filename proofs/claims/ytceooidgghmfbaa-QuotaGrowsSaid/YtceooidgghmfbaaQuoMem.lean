/- Slices of whole numbers in memory. -/
import Derived.Test.YtceooidgghmfbaaQuoMath
import Derived.Test.YtceooidgghmfbaaOwn
import Derived.Test.YtceooidgghmfbaaProg
import Derived.Handy
import Derived.WalkKit
import Derived.Lib.Hide
import Derived.OpenShut
import Derived.ChangeSlices
namespace Go.Proofs.Ytceooidgghmfbaa.Quo
open Go.Proofs.Ytceooidgghmfbaa.Mem
open Go.ChangeShapes Go.WideShapes Go.ChangeAt Go.RowKit
set_option linter.unusedVariables false
set_option linter.unusedSimpArgs false
/- A slice that shows the numbers l. -/
def Ns (w : World) (a : Option Addr) (l : List Int) : Prop :=
  0 < l.length → ∃ b off, a = some ⟨b, off, none⟩ ∧ b < w.heap.size ∧ ∀ i (h : i < l.length), w.cell? ⟨b, off + i, none⟩ = some (.int .i64 l[i])
theorem Ns.below {w w' : World} {a : Option Addr} {l : List Int} (h : Ns w a l) (hb : Below w.heap.size w w') : Ns w' a l := fun hn => by
  obtain ⟨b, off, ha, hlt, hc⟩ := h hn
  exact ⟨b, off, ha, Nat.lt_of_lt_of_le hlt hb.size, fun i hi => (hb.cell (p := ⟨b, off + i, none⟩) hlt).trans (hc i hi)⟩
def nc (l : List Int) : List Value := l.map (Value.int .i64)
theorem nc_length (l : List Int) : (nc l).length = l.length := by simp [nc]
theorem nc_app (a b : List Int) : nc (a ++ b) = nc a ++ nc b := by simp [nc]
theorem nc_set (l : List Int) (k : Nat) (x : Int) : (nc l).set k (.int .i64 x) = nc (l.set k x) := by simp [nc, List.map_set]
theorem nc_one (l : List Int) : ∀ u ∈ nc l, u.oneCell' = true := by
  intro u hu
  obtain ⟨k, _, rfl⟩ := List.mem_map.1 hu
  rfl
theorem nc_at {l : List Int} {i : Nat} (h : i < l.length) : (nc l)[i]? = some (.int .i64 l[i]) := by simp [nc, h]
theorem num_info : (Try.prog.info? 2).map (fun i => (i.zero, i.size, i.bytes)) = some (some (.int .i64 0), 1, 8) := by kernel_rfl
theorem Ns.sees {w : World} {a : Option Addr} {l : List Int} {c : Nat} (h : Ns w a l) (hn : a = none → c = 0) : Sees w 1 (.slice a l.length c) l.length (nc l) := by
  rcases a with _ | p
  · rcases Nat.eq_zero_or_pos l.length with h0 | h0
    · have hz : l = [] := List.eq_nil_of_length_eq_zero h0
      subst hz
      rw [hn rfl]
      exact .inl ⟨rfl, rfl, rfl⟩
    · obtain ⟨b, off, hq, _⟩ := h h0
      cases hq
  · refine .inr ⟨p, c, rfl, by rw [nc_length, Nat.mul_one], fun j u hu => ?_⟩
    have hj : j < l.length := by
      rw [← nc_length l]
      exact (List.getElem?_eq_some_iff.1 hu).1
    obtain ⟨b, off, hp, hlt, hc⟩ := h (by omega)
    injection hp with hp
    subst hp
    rw [nc_at hj] at hu
    exact ⟨hlt, by rw [add_none, hc j hj]; exact hu⟩
/- A row of the call's own. -/
theorem own_ns {w : World} {B n : Nat} {v : Value} {l : List Int} (h : w.ownsRow B 2 1 v n (nc l)) : ∃ a c, v = .slice a n c ∧ n = l.length ∧ Ns w a l ∧ n ≤ c ∧ c ≤ maxLen ∧ (0 < n → ∃ g, a = some ⟨g, 0, none⟩ ∧ B ≤ g ∧ g < w.heap.size) := by
  have hn : n = l.length := by have := h.1; rw [nc_length] at this; omega
  rcases h.2 with ⟨rfl, h0⟩ | ⟨g, cap, cur, rfl, hg, hh, hnc, hcm, hcs, ht⟩
  · exact ⟨none, 0, by rw [h0], hn, fun h => absurd h (by omega), by omega, Nat.zero_le _, fun h => absurd h (by omega)⟩
  · have hlt := (World.ownsRow.lt h g rfl).2
    refine ⟨some ⟨g, 0, none⟩, cap, rfl, hn, fun hp => ⟨g, 0, rfl, hlt, fun i hi => ?_⟩, hnc, hcm, fun _ => ⟨g, rfl, hg, hlt⟩⟩
    have h1 := World.ownsRow.cellAt h i (by omega)
    rw [Nat.zero_add, h1, nc_at hi]
theorem own_new {w w' : World} {B n : Nat} {e : TypeId} {v : Value} {xs : List Value} (h : w.ownsRow B e 1 v n xs) (hb : Below w.heap.size w w') : w'.ownsRow B e 1 v n xs := ownsRow_but h (But.of_new hb (S := fun _ => False)) (fun _ _ h => h)
theorem ns_made (w : World) (l : List Int) (fr : Nat × Nat) : Ns (w.alloc (.cells (nc l).toArray 2 fr)) (some ⟨w.heap.size, 0, none⟩) l := fun hn => by
  refine ⟨_, 0, rfl, by simp, fun i hi => ?_⟩
  rw [World.cell?_alloc_mark]
  simp [nc, hi]
/- What came in. -/
section
variable {H : Type} {enc : TypeId × Value → H} {w : World}
theorem num_read {fuel : Nat} {v : Value} {y : DataW H × List MemPlace} (h : DataW.trod enc Try.prog w 0 (fun _ => true) true fuel 2 [v] = some y) : ∃ n : Int, v = .int .i64 n ∧ -9223372036854775808 ≤ n ∧ n ≤ 9223372036854775807 := by
  obtain ⟨n, hs, _, hw⟩ := DataW.trod_int Try.underlying2 h
  injection hs with hs _
  exact ⟨n, hs, by simpa [Lit.wf, IntKind.min, IntKind.max, IntKind.signed, IntKind.bits] using hw⟩
theorem int_read {fuel : Nat} {v : Value} {y : DataW H × List MemPlace} (h : DataW.trod enc Try.prog w 0 (fun _ => true) true fuel 3 [v] = some y) : ∃ n : Int, v = .int .i64 n ∧ -9223372036854775808 ≤ n ∧ n ≤ 9223372036854775807 := by
  obtain ⟨n, hs, _, hw⟩ := DataW.trod_int Try.underlying3 h
  injection hs with hs _
  exact ⟨n, hs, by simpa [Lit.wf, IntKind.min, IntKind.max, IntKind.signed, IntKind.bits] using hw⟩
theorem ns_read {fuel : Nat} {v : Value} {y : DataW H × List MemPlace} (h : DataW.trod enc Try.prog w 0 (fun _ => true) true fuel 22 [v] = some y) :
    ∃ (a : Option Addr) (l : List Int) (cap : Nat), v = .slice a l.length cap ∧ Ns w a l ∧ l.length ≤ cap ∧ cap ≤ maxLen ∧ (a = none → cap = 0) := by
  have hsz : Try.prog.cellsOf 2 = 1 := by kernel_rfl
  rcases open_ints Try.underlying22 Try.underlying2 hsz h with ⟨hcs, _⟩ | ⟨x, len, cap, zs, hcs, _, hl, hm, hz, _, hc, _⟩
  · injection hcs with hv _
    exact ⟨none, [], 0, hv, fun h => absurd h (by simp), Nat.le_refl _, Nat.zero_le _, fun _ => rfl⟩
  · injection hcs with hv _
    have hzl : zs.length = cap := by simpa using hz
    have hlen : (zs.take len).length = len := by rw [List.length_take]; omega
    refine ⟨some x, zs.take len, cap, by rw [hlen]; exact hv, fun hn => ?_, by rw [hlen]; exact hl, hm, fun h => by cases h⟩
    rw [hlen] at hn
    obtain ⟨b, off, spot⟩ := x
    have h0 := hc 0 (by omega)
    have hspot : spot = none := by simpa [Addr.add] using World.cell?_spot h0
    subst hspot
    refine ⟨b, off, rfl, block_lt_of_cell (a := ⟨b, off, none⟩) (by simpa [Addr.add] using h0), fun i hi => ?_⟩
    rw [hlen] at hi
    have h1 := hc i (by omega)
    rw [add_none] at h1
    rw [h1]
    simp [List.getElem_take, List.getD, show i < zs.length by omega]
end
end Go.Proofs.Ytceooidgghmfbaa.Quo

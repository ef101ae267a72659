/- The law's example; FoldPages walked. -/
import Derived.Test.YtbhoknnjilidnaaFoldPage
namespace Go.Proofs.Ytbhoknnjilidnaa.Fold
open Go.Proofs.Ytbhoknnjilidnaa.Mem
open Go.ChangeShapes Go.WideShapes Go.ChangeAt Go.RowKit
open Go.Proofs (encStr)
set_option linter.unusedVariables false
set_option linter.unusedSimpArgs false
theorem ex_rest : rest [[98], [97], [99]] [97] false = [[98], [99]] := by
  refine ris_one (rest_ris _ _ _).1 (by simp [Ris]; decide) (fun x => ?_)
  rw [(rest_ris _ _ _).2]
  have e1 : ([97] : K) < [98] := by decide
  have e2 : ([97] : K) < [99] := by decide
  have e3 := lt_irr [97]
  simp only [List.mem_cons, List.not_mem_nil, or_false, behind, Bool.false_or, decide_eq_true_eq]
  constructor
  · rintro ⟨rfl | rfl | rfl, h⟩
    · exact .inl rfl
    · exact absurd h e3
    · exact .inr rfl
  · rintro (rfl | rfl)
    · exact ⟨.inl rfl, e1⟩
    · exact ⟨.inr (.inr rfl), e2⟩
theorem draw_below {B : Nat} {w w' : World} (h : Below B w w') (q : Nat) : Below B w (w'.drewN q) := h.trans ⟨rfl, rfl, rfl, Nat.le_refl _, fun _ _ => rfl⟩
theorem ks_made (w : World) (ks : List K) : Ks (w.alloc (.cells (kcells ks).toArray 9)) (some ⟨w.heap.size, 0, none⟩) ks := fun hn => by
  refine ⟨_, 0, rfl, by simp, fun i hi => ?_⟩
  rw [World.cell?_alloc_mark]
  simp [kcells, hi]
set_option maxRecDepth 100000 in
set_option maxHeartbeats 2000000 in
theorem up_any (w : World) : Calls Try.prog 5 #[] w fun e w' => e = .returned (.bool true) ∧ Below w.heap.size w w' := by
  go_enter Try.func5, Try.ntmps5
  go_wp2_with fail
  have hk1 := ks_made w [[98], [97], [99]]
  have hb1 := (Below.refl w.heap.size w).alloc (Nat.le_refl _) (.cells (kcells [[98], [97], [99]]).toArray 9)
  have c1 := page_any (c := 3) hk1 (by decide) [97] false 1 (by omega)
  rw [ex_rest] at c1
  refine c1.mono ?_
  clear c1 hk1
  rintro e w2 ⟨v, rfl, hO, hb2⟩
  have hB2 := Lib.hid (hb1.trans (hb2.mono hb1.size))
  clear hb1 hb2
  obtain ⟨av, cv, rfl, hks, _⟩ := hO.slice
  obtain ⟨g, off, rfl, hg, hc⟩ := hks (by decide)
  have c0 := hc 0 (by decide)
  have HC := Lib.hid (And.intro hg c0)
  clear hO hks hc c0 hg
  simp only [List.length_cons, List.length_nil, Int.toNat_one, List.take_succ_cons, List.take_zero, Nat.zero_add]
  go_wp2_with fail
  have hk3 := ks_made w2 [[97], [99]]
  have hb3 := (Below.refl w2.heap.size w2).alloc (Nat.le_refl _) (.cells (kcells [[97], [99]]).toArray 9)
  have c3 := find_any (c := 2) hk3 (by simp [Ris]; decide) (by decide) [98]
  rw [show place [[97], [99]] [98] = 1 by decide, show decide (([98] : K) ∈ ([[97], [99]] : List K)) = false by decide] at c3
  refine c3.mono ?_
  rintro e w4 ⟨rfl, q, hw4⟩
  have hB4 := Lib.hid (show Below w.heap.size w w4 ∧ w4.cell? ⟨g, off + 0, none⟩ = some (.string (tx [98])) from by
    rw [hw4]
    refine ⟨draw_below (hB2.out.trans (hb3.mono hB2.out.size)) _, ?_⟩
    exact (hb3.cell (p := ⟨g, off + 0, none⟩) HC.out.1).trans HC.out.2)
  have c5 : w4.cell? ⟨g, off, none⟩ = some (.string ⟨#[98]⟩) := hB4.out.2
  clear c3 hk3 hb3 hw4
  go_wp2_with fail
  go_ret
  exact ⟨rfl, hB4.out.1⟩
end Go.Proofs.Ytbhoknnjilidnaa.Fold

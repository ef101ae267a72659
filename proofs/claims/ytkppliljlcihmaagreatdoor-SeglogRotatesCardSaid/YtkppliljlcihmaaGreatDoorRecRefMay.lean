/- Whether a record may be as the document says: the walks of the reference's May. -/
import Derived.Test.YtkppliljlcihmaaGreatDoorRecRefMayA
import Derived.Test.YtkppliljlcihmaaGreatDoorRecRefMayB
import Derived.Test.YtkppliljlcihmaaGreatDoorGG
namespace Go.Proofs.YtkppliljlcihmaaGreatDoor.Rec
open Go.Proofs.YtkppliljlcihmaaGreatDoor.Mem Go.Proofs.YtkppliljlcihmaaGreatDoor.Pack
open Go.ChangeShapes Go.WideShapes Go.ChangeAt Go.RowKit
set_option linter.unusedVariables false
set_option linter.unusedSimpArgs false

theorem refMay_any (r : Rcd) (w : World) : Calls Tryz.prog 62 #[rv r] w fun e w' => e = .returned (.bool (decide (May r))) ∧ Below w.heap.size w w' := by
  by_cases h0 : 1 ≤ r.kind
  rotate_left
  · rw [decide_eq_false (fun h : May r => h0 h.1)]
    exact ref_low_kind r (by omega) w
  by_cases h1 : r.kind ≤ 7
  rotate_left
  · rw [decide_eq_false (fun h : May r => h1 h.2.1)]
    exact ref_high_kind r h0 (by omega) w
  by_cases h2 : 0 ≤ r.bucket
  rotate_left
  · rw [decide_eq_false (fun h : May r => h2 h.2.2.1)]
    exact ref_low r h0 h1 (by omega) w
  by_cases h3 : r.bucket ≤ 63
  rotate_left
  · rw [decide_eq_false (fun h : May r => h3 (by have := h.2.2.2.1; omega))]
    exact ref_high r h0 h1 h2 (by omega) w
  by_cases h4 : r.gen = 0
  · rw [decide_eq_false (fun h : May r => absurd h.2.2.2.2.1 (by omega))]
    exact ref_gen r h0 h1 h2 h3 h4 w
  have e : decide (May r) = (decide (fits r) && decide (r = named r)) := by
    rw [Bool.eq_iff_iff, Bool.and_eq_true, decide_eq_true_iff, decide_eq_true_iff, decide_eq_true_iff]
    exact ⟨fun h => ⟨h.2.2.2.2.2.2, h.2.2.2.2.2.1⟩, fun h => ⟨h0, h1, h2, by omega, by omega, h.2, h.1⟩⟩
  rw [e]
  clear e
  have yes : fits r → (decide (fits r) && decide (r = named r)) = decide (r = named r) := fun h => by rw [decide_eq_true h, Bool.true_and]
  have no : ¬ fits r → (decide (fits r) && decide (r = named r)) = false := fun h => by rw [decide_eq_false h, Bool.false_and]
  have hk : r.kind = 1 ∨ r.kind = 2 ∨ r.kind = 3 ∨ r.kind = 4 ∨ r.kind = 5 ∨ r.kind = 6 ∨ r.kind = 7 := by omega
  have n31 : ¬ (3 : Int) = 1 := by decide
  have n41 : ¬ (4 : Int) = 1 := by decide
  have n43 : ¬ (4 : Int) = 3 := by decide
  have n51 : ¬ (5 : Int) = 1 := by decide
  have n53 : ¬ (5 : Int) = 3 := by decide
  have n54 : ¬ (5 : Int) = 4 := by decide
  rcases hk with hk | hk | hk | hk | hk | hk | hk
  · have ef : fits r ↔ (inQ r.keys ∧ inQ r.bytes ∧ inQ r.budget) := by unfold fits; rw [if_pos hk]
    by_cases hq : inQ r.keys ∧ inQ r.bytes ∧ inQ r.budget
    · rw [yes (ef.2 hq)]; exact ref_1t r hk h2 h3 h4 hq w
    · rw [no (fun h => hq (ef.1 h))]; exact ref_1f r hk h2 h3 h4 hq w
  · rw [yes (by unfold fits; rw [hk]; simp)]; exact ref_2 r hk h2 h3 h4 w
  · have ef : fits r ↔ (1 ≤ r.key.size ∧ r.key.size ≤ 64) ∧ r.val.size ≤ 1000 := by unfold fits keyMay; rw [hk, if_neg n31, if_pos rfl]
    by_cases hk1 : 0 < r.key.size
    · by_cases hk2 : r.key.size ≤ 64
      · by_cases hv : r.val.size ≤ 1000
        · rw [yes (ef.2 ⟨⟨hk1, hk2⟩, hv⟩)]; exact ref_3t r hk h2 h3 h4 hk1 hk2 hv w
        · rw [no (fun h => hv (ef.1 h).2)]; exact ref_3v r hk h2 h3 h4 hk1 hk2 hv w
      · rw [no (fun h => hk2 (ef.1 h).1.2)]; exact ref_3k r hk h2 h3 h4 hk1 hk2 w
    · rw [no (fun h => hk1 (ef.1 h).1.1)]; exact ref_3n r hk h2 h3 h4 hk1 w
  · have ef : fits r ↔ 1 ≤ r.key.size ∧ r.key.size ≤ 64 := by unfold fits keyMay; rw [hk, if_neg n41, if_neg n43, if_pos rfl]
    by_cases hk1 : 0 < r.key.size
    · by_cases hk2 : r.key.size ≤ 64
      · rw [yes (ef.2 ⟨hk1, hk2⟩)]; exact ref_4t r hk h2 h3 h4 hk1 hk2 w
      · rw [no (fun h => hk2 (ef.1 h).2)]; exact ref_4k r hk h2 h3 h4 hk1 hk2 w
    · rw [no (fun h => hk1 (ef.1 h).1)]; exact ref_4n r hk h2 h3 h4 hk1 w
  · have ef : fits r ↔ 1 ≤ r.rights ∧ r.rights ≤ 7 := by unfold fits; rw [hk, if_neg n51, if_neg n53, if_neg n54, if_pos rfl]
    by_cases hl : 0 < r.rights
    · by_cases hh : r.rights < 8
      · rw [yes (ef.2 ⟨by omega, by omega⟩)]; exact ref_5t r hk h2 h3 h4 hl hh w
      · rw [no (fun h => hh (by have := (ef.1 h).2; omega))]; exact ref_5h r hk h2 h3 h4 hl hh w
    · rw [no (fun h => hl (by have := (ef.1 h).1; omega))]; exact ref_5l r hk h2 h3 h4 hl w
  · rw [yes (by unfold fits; rw [hk]; simp)]; exact ref_6 r hk h2 h3 h4 w
  · rw [yes (by unfold fits; rw [hk]; simp)]; exact ref_7 r hk h2 h3 h4 w
end Go.Proofs.YtkppliljlcihmaaGreatDoor.Rec

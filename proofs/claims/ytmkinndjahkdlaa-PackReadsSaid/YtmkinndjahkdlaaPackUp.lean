/- The head of the statements of layer 2: the document's example holds. -/
import Derived.Test.YtmkinndjahkdlaaPackRefText
import Derived.Lib.Bytes
namespace Go.Proofs.Ytmkinndjahkdlaa.Pack
open Go.Proofs.Ytmkinndjahkdlaa.Mem
open Go.ChangeShapes Go.WideShapes Go.ChangeAt Go.RowKit
set_option linter.unusedVariables false

theorem Rd.below {w w' : World} {p D : Nat} {zs : List Int} {short : Bool} (h : Rd w p D zs short) (hb : Below w.heap.size w w') : Rd w' p D zs short := by
  refine h.but (S := fun _ => False) ((But.of_below hb).mono (fun i hi hs => by omega)) (fun h => h) (fun h => h)
theorem Rf.below {w w' : World} {q bd : Nat} {zs : List Int} {short : Bool} (h : Rf w q bd zs short) (hb : Below w.heap.size w w') : Rf w' q bd zs short := by
  refine h.but (S := fun _ => False) ((But.of_below hb).mono (fun i hi hs => by omega)) (fun h => h) (fun _ _ h => h)
theorem row_two (w : World) (fr : Nat × Nat) : Row (w.alloc (.cells #[.int .u8 2, .int .u8 1] 5 fr)) (some ⟨w.heap.size, 0, none⟩) 2 [2, 1] := by
  refine ⟨rfl, ?_, fun _ => ⟨_, _, rfl, by simp, fun i hi => ?_⟩⟩
  · intro z hz
    simp at hz
    omega
  · rw [Nat.zero_add, World.cell?_alloc_mark]
    have h : i = 0 ∨ i = 1 := by omega
    rcases h with rfl | rfl <;> rfl
theorem number_258 (p : Nat) {D : Nat} (w : World) (h : Rd w p D [2, 1] false) :
    Calls Try.prog 14 #[.pointer (some ⟨p, 0, none⟩), .int .i64 2] w fun e w' => e = .returned (.int .u64 258) ∧ Rd w' p D [] false ∧ But (fun b => b = p) w w' := by
  have n1 : num (got [2, 1] 2) = 258 := by decide
  have l1 : left [2, 1] 2 = [] := by decide
  have s1 : shortBy [2, 1] 2 false = false := by decide
  have hc := number_any p [2, 1] false 2 (by omega) (by omega) w h
  rw [n1, l1, s1] at hc
  exact hc
theorem number_end (p : Nat) {D : Nat} (w : World) (h : Rd w p D [] false) :
    Calls Try.prog 14 #[.pointer (some ⟨p, 0, none⟩), .int .i64 1] w fun e w' => e = .returned (.int .u64 0) ∧ Rd w' p D [] true ∧ But (fun b => b = p) w w' := by
  have n2 : num (got [] 1) = 0 := by decide
  have l2 : left [] 1 = [] := by decide
  have s2 : shortBy [] 1 false = true := by decide
  have hc := number_any p [] false 1 (by omega) (by omega) w h
  rw [n2, l2, s2] at hc
  exact hc
theorem put_258 (w : World) :
    Calls Try.prog 7 #[.slice none 0 0, .int .u64 258, .int .i64 2] w fun e w' => ∃ a c, e = .returned (.slice a 2 c) ∧ Row w' a 2 [2, 1] ∧ Below w.heap.size w w' := by
  have p1 : put 258 2 = [2, 1] := by decide
  refine (put_any 258 (by omega) 2 (by omega) (by omega) (.slice none 0 0) 0 [] w.heap.size w (World.ownsRow_nil _ _ _ _) (Nat.le_refl _) (by omega)).mono ?_
  rintro e w2 ⟨v2, rfl, ho2, hon2⟩
  rw [p1] at ho2
  obtain ⟨a2, c2, rfl, hr2, hlen2, hD⟩ := own_shape (xs := [2, 1]) (by simpa using ho2) (row_two w2 (0, 0)).2.1
  exact ⟨a2, c2, rfl, hr2, hon2.below (World.ownsRow_nil w w.heap.size 5 1) (Nat.le_refl _)⟩
set_option maxHeartbeats 2000000 in
theorem up_any (w : World) :
    Calls Try.prog 6 #[] w fun e w' => e = .returned (.bool true) ∧ Below w.heap.size w w' := by
  have heq : ((strOfNums [2, 1]).toList == [2, 1]) = true := by rw [Lib.strOfNums_toList]; decide
  go_enter Try.func6, Try.ntmps6
  go_wp2_with fail
  refine (new_any _ 2 2 [2, 1] _ (row_two w _) (by simp) (by omega)).mono ?_
  rintro e w1 ⟨p, rfl, hp, D, hrd1, hb1, hD1, hD2⟩
  go_wp2_with fail
  refine (put_258 w1).mono ?_
  rintro e w2 ⟨a2, c2, rfl, hr2, hb2⟩
  have hrd2 := hrd1.below hb2
  have hstr := fun dst hd => run_string_row (P := Try.prog) hr2 22 5 dst Try.underlying22 Try.underlying5 hd c2
  clear hr2 hrd1
  go_wp2_with fail
  refine (number_258 p w2 hrd2).mono ?_
  rintro e w3 ⟨rfl, hrd3, hb3⟩
  clear hrd2 hstr
  go_wp2_with fail
  refine (short_any p [] false w3 hrd3).mono ?_
  rintro e w4 ⟨rfl, rfl⟩
  go_wp2_with fail
  refine (number_end p w3 hrd3).mono ?_
  rintro e w5 ⟨rfl, hrd5, hb5⟩
  go_wp2_with fail
  refine (short_any p [] true w5 hrd5).mono ?_
  rintro e w6 ⟨rfl, rfl⟩
  go_wp2_with fail
  go_ret
  have hs1 : w.heap.size ≤ w.heap.size + 1 := by omega
  have hbA : Below w.heap.size w w1 := ((Below.refl _ w).alloc (Nat.le_refl _) _).trans (hb1.mono (by simp))
  have hbB : Below w.heap.size w w2 := hbA.trans (hb2.mono hbA.size)
  have hpp : w.heap.size ≤ p := by simp at hp; omega
  have hbC : Below w.heap.size w w3 := hbB.trans (hb3.below hbB.size (fun k hk => by omega))
  have hbD : Below w.heap.size w w5 := hbC.trans (hb5.below hbC.size (fun k hk => by omega))
  exact ⟨rfl, hbD⟩
end Go.Proofs.Ytmkinndjahkdlaa.Pack

/- The head of the statements of layer 5: the document's example holds. -/
import Derived.Test.YtiaaadeenbjciaaFrameRef
import Derived.Lib.SlBytesConst
namespace Go.Proofs.Ytiaaadeenbjciaa.Frame
open Go.Proofs.Ytiaaadeenbjciaa.Mem Go.Proofs.Ytiaaadeenbjciaa.Err
open Go.Proofs.Ytiaaadeenbjciaa.Crc (sumOf)
open Go.ChangeShapes Go.WideShapes Go.ChangeAt Go.RowKit
set_option linter.unusedVariables false

theorem row_x (w : World) (fr : Nat × Nat) : Row (w.alloc (.cells #[.int .u8 120] 5 fr)) (some ⟨w.heap.size, 0, none⟩) 1 [120] := by
  refine ⟨rfl, ?_, fun _ => ⟨_, _, rfl, by simp, fun i hi => ?_⟩⟩
  · intro z hz
    simp at hz
    omega
  · rw [Nat.zero_add, World.cell?_alloc_mark]
    have h : i = 0 := by omega
    subst h
    rfl
theorem put_x (a : Option Addr) (w : World) (h : Row w a 1 [120]) (hn : a ≠ none) :
    Calls Try.prog 25 #[.slice a 1 1] w fun e w' => ∃ a2 c2, e = .returned (.tuple #[.slice a2 9 c2, .nilIface]) ∧ Below w.heap.size w w' := by
  refine (put_yes a 1 [120] w h (fun h => absurd h hn) (by decide) (by decide)).mono ?_
  rintro e w' ⟨v, rfl, ho, hb⟩
  obtain ⟨a2, c2, rfl, _⟩ := own_shape ho (frm_bytes h.2.1)
  exact ⟨a2, c2, rfl, hb⟩
theorem get_nil (w : World) :
    Calls Try.prog 28 #[.slice none 0 0] w fun e w' => e = .returned (.tuple #[.slice none 0 0, .int .i64 0, .iface 52 (.int .i64 3)]) ∧ w = w' := get_short none 0 0 w (by omega)
theorem put_nil (w : World) :
    Calls Try.prog 25 #[.slice none 0 0] w fun e w' => e = .returned (.tuple #[.slice none 0 0, .iface 52 (.int .i64 13)]) ∧ w = w' := put_no none 0 0 w (by omega) (.inl (by omega))
set_option maxRecDepth 100000 in
set_option maxHeartbeats 2000000 in
theorem up_any (w : World) :
    Calls Try.prog 24 #[] w fun e w' => e = .returned (.bool true) ∧ Below w.heap.size w w' := by
  have kc := fun (w : World) (C : Array Value) (n c : Nat) => Lib.run_convert_bytes_const (P := Try.prog) w 30 5 C n c Try.underlying30 Try.underlying5
  have ke := code_eql
  go_enter Try.func24, Try.ntmps24
  go_wp2_with fail
  refine (put_x _ _ (row_x _ _) (by simp)).mono ?_
  rintro e w1 ⟨a2, c2, rfl, hb1⟩
  have hbA : Below w.heap.size w w1 := ((Below.refl _ w).alloc (Nat.le_refl _) _).trans (hb1.mono (by simp))
  clear hb1 kc
  go_wp2_with fail
  refine (put_nil _).mono ?_
  rintro e w' ⟨rfl, rfl⟩
  go_wp2_with fail
  refine (get_nil _).mono ?_
  rintro e w' ⟨rfl, rfl⟩
  go_wp2_with fail
  refine (size_any 1 (by omega) (by omega) _).mono ?_
  rintro e w' ⟨rfl, rfl⟩
  go_wp2_with fail
  go_ret
  exact ⟨rfl, hbA⟩
end Go.Proofs.Ytiaaadeenbjciaa.Frame

/- The document's example, at the head of both statements; which of three. -/
import Derived.Test.YtciplhpnbpmfeaaRgtCalls
namespace Go.Proofs.Ytciplhpnbpmfeaa.Rgt
open Go.Proofs.Ytciplhpnbpmfeaa.Mem
open Go.ChangeShapes Go.WideShapes Go.ChangeAt Go.RowKit
open Go.Proofs.Ytciplhpnbpmfeaa.Err (errV errV_zero errV_some)
set_option linter.unusedVariables false
set_option linter.unusedSimpArgs false
def pickN (c : Int) : Nat := if c < 0 then ((-(c + 1)) % 3).toNat else (c % 3).toNat
theorem pickN_lt (c : Int) : pickN c < 3 := by unfold pickN; split <;> omega
theorem pick_any (c : Int) (h : -9223372036854775808 ≤ c) (h' : c ≤ 9223372036854775807) (w : World) :
    Calls Try.prog 10 #[.int .i64 c, .int .i64 3] w fun e w' => e = .returned (.int .i64 ((pickN c : Nat) : Int)) ∧ w = w' := by
  by_cases hc : c < 0
  · have e1 : IntKind.i64.wrap (c + 1) = c + 1 := by rw [IntKind.wrap_i64]; omega
    have e2 : IntKind.i64.wrap (-(c + 1)) = -(c + 1) := by rw [IntKind.wrap_i64]; omega
    have e3 : (-(c + 1)).tmod 3 = ((pickN c : Nat) : Int) := by
      unfold pickN
      rw [if_pos hc, Int.tmod_eq_emod_of_nonneg (by omega)]; omega
    have e4 : IntKind.i64.wrap ((pickN c : Nat) : Int) = ((pickN c : Nat) : Int) := by have := pickN_lt c; rw [IntKind.wrap_i64]; omega
    go_enter Try.func10, Try.ntmps10
    go_wp2
    go_ret
    exact ⟨by simp [e1, e2, e3, e4], rfl⟩
  · have e3 : c.tmod 3 = ((pickN c : Nat) : Int) := by
      unfold pickN
      rw [if_neg hc, Int.tmod_eq_emod_of_nonneg (by omega)]; omega
    have e4 : IntKind.i64.wrap ((pickN c : Nat) : Int) = ((pickN c : Nat) : Int) := by have := pickN_lt c; rw [IntKind.wrap_i64]; omega
    go_enter Try.func10, Try.ntmps10
    go_wp2
    go_ret
    exact ⟨by simp [e3, e4], rfl⟩
/- A table of the call's own, made since W. -/
structure Live (W wr : World) (p mb : Nat) (T : List Tok) : Prop where
  at_ : RAt wr p mb T
  low : W.heap.size ≤ p ∧ W.heap.size ≤ mb
  but : But (fun _ => False) W wr
section
variable {W w w' : World} {p mb : Nat} {T T' : List Tok}
theorem Live.turn (h : Live W w p mb T) (hm : RAt w' p mb T') (hb : But (fun j => j = mb) w w') : Live W w' p mb T' :=
  ⟨hm, h.low, h.but.trans hb (fun i hi e => by have := h.low; omega)⟩
theorem Live.new (h : Live W w p mb T) (hb : But (fun _ => False) w w') : Live W w' p mb T := ⟨h.at_.new hb, h.low, h.but.trans hb (fun _ _ h => h)⟩
theorem Live.more {W0 : World} (h : Live W w p mb T) (hb : But (fun _ => False) W0 W) : Live W0 w p mb T := ⟨h.at_, ⟨Nat.le_trans hb.size h.low.1, Nat.le_trans hb.size h.low.2⟩, hb.trans h.but (fun _ _ h => h)⟩
set_option maxRecDepth 100000 in
set_option maxHeartbeats 1000000 in
theorem up_any (w : World) : Calls Try.prog 5 #[] w fun e w' => e = .returned (.bool true) ∧ But (fun _ => False) w w' := by
  have HN := Lib.hid (rgt_new w)
  go_enter Try.func5, Try.ntmps5
  go_wp2_with fail
  refine HN.out.mono ?_
  rintro e w1 ⟨p, mb, rfl, hA, hl, hB⟩
  have HL := Lib.hid (show Live w w1 p mb [] from ⟨hA, hl, hB⟩)
  have HP := Lib.hid (rgt_put hA (s := 1) (k := 9) (by omega) (by omega) 3)
  clear hA hl hB HN
  go_wp2_with fail
  refine HP.out.mono ?_
  rintro e w2 ⟨rfl, hA, hB⟩
  have hL := HL.out.turn hA hB
  rw [show putErr 1 3 [] = 0 from by decide, errV_zero]
  have HR1 := Lib.hid (rgt_rights hL.at_ (s := 1) (k := 9) (by omega))
  have HL := Lib.hid hL
  clear hA hB hL HP
  go_wp2_with fail
  refine HR1.out.mono ?_
  rintro e w3 ⟨rfl, hB⟩
  have hL := HL.out.new hB
  have HR1 := Lib.hid (rgt_rights hL.at_ (s := 1) (k := 8) (by omega))
  have HL := Lib.hid hL
  clear hB hL
  rw [show has 1 9 (putTo ⟨1, 3, 9⟩ []) = 3 from by decide]
  go_wp2_with fail
  refine HR1.out.mono ?_
  rintro e w4 ⟨rfl, hB⟩
  have hL := HL.out.new hB
  have HL := Lib.hid hL
  clear hB hL
  rw [show has 1 8 (putTo ⟨1, 3, 9⟩ []) = 0 from by decide]
  have HW := Lib.hid rgt_within
  go_wp2_with fail
  refine (HW.out _ _ _).mono ?_
  rintro e w5 ⟨rfl, rfl⟩
  rw [show within 3 7 = true from by decide]
  go_wp2_with fail
  refine (HW.out _ _ _).mono ?_
  rintro e w5 ⟨rfl, rfl⟩
  rw [show within 0 7 = false from by decide]
  go_wp2_with fail
  go_ret
  exact ⟨rfl, HL.out.but⟩
end
end Go.Proofs.Ytciplhpnbpmfeaa.Rgt

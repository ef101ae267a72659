/- The document's example, at the head of both statements; the law's own Part. -/
import Derived.Test.YtomeehecegehbaaLdHeavy
namespace Go.Proofs.Ytomeehecegehbaa.Ld
open Go.Proofs.Ytomeehecegehbaa.Mem
open Go.ChangeShapes Go.WideShapes Go.ChangeAt Go.RowKit
set_option linter.unusedVariables false
set_option linter.unusedSimpArgs false
/- Loads of the call's own, made since W. -/
structure Live (W wr : World) (p mb N : Nat) (f : Int → Pr) : Prop where
  at_ : LAt wr p mb N f
  low : W.heap.size ≤ p ∧ W.heap.size ≤ mb
  but : But (fun _ => False) W wr
section
variable {W w w' : World} {p mb N M : Nat} {f g : Int → Pr}
theorem Live.turn (h : Live W w p mb N f) (hm : LAt w' p mb M g) (hb : But (fun j => j = mb) w w') : Live W w' p mb M g :=
  ⟨hm, h.low, h.but.trans hb (fun i hi e => by have := h.low; omega)⟩
theorem Live.new (h : Live W w p mb N f) (hb : But (fun _ => False) w w') : Live W w' p mb N f := ⟨h.at_.new hb, h.low, h.but.trans hb (fun _ _ h => h)⟩
theorem Live.more {W0 : World} (h : Live W w p mb N f) (hb : But (fun _ => False) W0 W) : Live W0 w p mb N f := ⟨h.at_, ⟨Nat.le_trans hb.size h.low.1, Nat.le_trans hb.size h.low.2⟩, hb.trans h.but (fun _ _ h => h)⟩
theorem ks_one {k : Int} {x : Pr} {hs : List Int} (hx : x ≠ (0, 0)) (hf : ∀ s, f s = if s = k then x else (0, 0)) (h : Ks f hs) : hs.length = 1 := by
  have h1 : Ks f [k] := ⟨by simp, fun s => by
    rw [hf]
    by_cases e : s = k
    · simp [e, hx]
    · simp [e]⟩
  rw [(ks_perm h h1).length_eq]; rfl
def fu : Int → Pr := upd (upd (fun _ => (0, 0)) 3 (more (0, 0) 5 0)) 3 (more (more (0, 0) 5 0) 0 7)
theorem fu_is (s : Int) : fu s = if s = 3 then (5, 7) else (0, 0) := by
  unfold fu upd
  by_cases h : s = 3
  · rw [if_pos h, if_pos h]; decide
  · rw [if_neg h, if_neg h, if_neg h]
set_option maxRecDepth 100000 in
set_option maxHeartbeats 1000000 in
theorem up_any (w : World) : Calls Try.prog 5 #[] w fun e w' => e = .returned (.bool true) ∧ But (fun _ => False) w w' := by
  have HN := Lib.hid (ld_new w)
  go_enter Try.func5, Try.ntmps5
  go_wp2_with fail
  refine HN.out.mono ?_
  rintro e w1 ⟨p, mb, rfl, hA, hl, hB⟩
  have HL := Lib.hid (show Live w w1 p mb 0 _ from ⟨hA, hl, hB⟩)
  have HP := Lib.hid (ld_add hA (by omega) (k := 3) (by unfold I64; omega) 5 0)
  clear hA hl hB HN
  go_wp2_with fail
  refine HP.out.mono ?_
  rintro e w2 ⟨rfl, hA, hB⟩
  have HL := Lib.hid (HL.out.turn hA hB)
  have HP := Lib.hid (ld_add hA (by omega) (k := 3) (by unfold I64; omega) 0 7)
  clear hA hB
  go_wp2_with fail
  refine HP.out.mono ?_
  rintro e w3 ⟨rfl, hA, hB⟩
  rw [show upd (upd (fun _ => (0, 0)) 3 (more ((fun _ => (0, 0)) 3) 5 0)) 3 (more (upd (fun _ => (0, 0)) 3 (more ((fun _ => (0, 0)) 3) 5 0) 3) 0 7) = fu from rfl] at hA
  have hL := HL.out.turn hA hB
  have HL := Lib.hid hL
  have HO := Lib.hid (ld_of hA (k := 3) (by unfold I64; omega))
  have HO2 := Lib.hid (ld_of hA (k := 4) (by unfold I64; omega))
  have HH := Lib.hid (ld_heavy hA (by omega))
  rw [show fu 3 = (5, 7) from fu_is 3, fl_5, fl_7] at HO
  rw [show fu 4 = (0, 0) from fu_is 4, fl_zero] at HO2
  have o1 : (FloatKind.f64.format.order 4617315517961601024 4617315517961601024 == some .eq) = true := by kernel_rfl
  have o2 : (FloatKind.f64.format.order 4619567317775286272 4619567317775286272 == some .eq) = true := by kernel_rfl
  have o3 : (FloatKind.f64.format.order 0 0 == some .eq) = true := by kernel_rfl
  clear hA hB hL HP
  go_wp2_with fail
  refine HO.out.mono ?_
  rintro e w4 ⟨rfl, rfl⟩
  go_wp2_with fail
  refine HO2.out.mono ?_
  rintro e w4 ⟨rfl, rfl⟩
  go_wp2_with fail
  refine HH.out.mono ?_
  rintro e w5 ⟨v, hs, rfl, hk, _, _, _, hi, hB⟩
  obtain ⟨a, cap, rfl, _⟩ := hi.at_
  rw [ks_one (by decide) fu_is hk]
  have HL := Lib.hid (HL.out.new hB)
  clear hk hi hB
  go_wp2_with fail
  go_ret
  exact ⟨rfl, HL.out.but⟩
end
def part (x : Int) : Nat := min x.toNat 1099511627776
theorem part_any (x : Int) (w : World) : Calls Try.prog 9 #[.int .i64 x] w fun e w' => e = .returned (.int .i64 ((part x : Nat) : Int)) ∧ w = w' := by
  unfold part
  by_cases h1 : x < 0
  · rw [show min x.toNat 1099511627776 = 0 by omega]
    go_enter Try.func9, Try.ntmps9
    go_wp2
    go_ret
    exact ⟨rfl, rfl⟩
  · by_cases h2 : 1099511627776 < x
    · rw [show min x.toNat 1099511627776 = 1099511627776 by omega]
      go_enter Try.func9, Try.ntmps9
      go_wp2
      go_ret
      exact ⟨rfl, rfl⟩
    · rw [show ((min x.toNat 1099511627776 : Nat) : Int) = x by omega]
      go_enter Try.func9, Try.ntmps9
      go_wp2
      go_ret
      exact ⟨rfl, rfl⟩
end Go.Proofs.Ytomeehecegehbaa.Ld

/- RecordBack, for every input: the statement's row, lifted from the walk of the law. -/
import Derived.Test.YtkiagflpjloliaaRows
import Derived.Test.YtkiagflpjloliaaRecBack
import Derived.Test.YtkiagflpjloliaaRecOpen
import Derived.WalkKit
import Derived.ProofKit
import Derived.OpenShut
import Derived.ShutString
import Derived.ChangeOld
import Derived.Below
namespace Go.Proofs.Ytkiagflpjloliaa.recordBack
open Go.ChangeShapes Go.WideShapes Go.ChangeAt Go.RowKit Go.Deep
open Go.ChangeMaps (open_string shut_string)
set_option linter.unusedVariables false

theorem own : ownKnob Try.prog.godebug = none := by kernel_rfl
theorem laidOut : laidOutB Try.prog = true := by kernel_rfl

set_option maxRecDepth 100000 in
theorem lifted (os : Os) (started : os.Started) (H : Type) (enc : TypeId × Value → H) :
    ReturnsInHanded {} Try.checked os 5 .any (Rows.recordBackSpec.pre6 enc Try.prog Try.f5 Rows.recordBackRow.domain false) (Rows.recordBackSpec.post enc Try.prog Try.f5 false true false false) := by
  refine returnsInHanded_of_change (C := Try.checked) own started (by kernel_rfl) Try.func5
    (ChangeSpec.witness6 (enc := enc) (C := Try.checked) false ⟨#[], #[.slice none 0 0, .slice none 0 0], []⟩ 8 (by kernel_rfl) (by kernel_rfl) (by kernel_rfl) (by kernel_rfl)) ?_
  intro W base args ds gs before hval0 hW hcnd _
  have hval : ∀ (j : Nat) t v, Try.f5.params[j]? = some t → args[j]? = some v → Value.okWide Try.prog W .any base t v := hval0
  have hW' := hW
  obtain ⟨p, q, hA0, hV, rfl, hfz, hnd⟩ := hW
  have hA : DataW.TrodAll enc Try.prog W 0 (fun _ => true) true Try.f5.params.toList args.toList ds p := hA0
  rw [Try.params5] at hA hval
  obtain ⟨v0, vs0, d0, ds0, p0, q0, hargs, rfl, rfl, h0, r0⟩ := trodAll_cons hA
  obtain ⟨v1, vs1, d1, ds1, p1, q1, rfl, rfl, rfl, h1, r1⟩ := trodAll_cons r0
  obtain ⟨rfl, rfl, rfl⟩ := trodAll_nil r1
  obtain rfl : args = #[v0, v1] := by cases args; simp_all
  obtain ⟨rfl, rfl⟩ := trodVars_none hV
  have k0 := h0
  have lt0 : ∀ x ∈ p0, x.block < W.heap.size := by obtain ⟨m, hm⟩ := k0; exact DataW.trod_lt m _ _ _ hm
  have k1 := h1
  have lt1 : ∀ x ∈ p1, x.block < W.heap.size := by obtain ⟨m, hm⟩ := k1; exact DataW.trod_lt m _ _ _ hm
  obtain ⟨a, l, c, rfl, hl, hlc, hcm⟩ : ∃ (a : Option Addr) (l : List Rec.Rcd) (c : Nat), v0 = .slice a l.length c ∧ Rec.Recs W a l ∧ l.length ≤ c ∧ c ≤ maxLen := by
    obtain ⟨m, hm⟩ := h0
    obtain ⟨a4, l4, c4, rfl⟩ := okWide_slice Try.underlying28 (hval 0 28 v0 rfl rfl)
    exact Rec.recs_read (by simpa [Value.cells] using hm)
  obtain ⟨ab, lb, cb, zs, rfl, hrow, hnil, hlb, hcb⟩ : ∃ (ab : Option Addr) (lb cb : Nat) (zs : List Int), v1 = .slice ab lb cb ∧ Mem.Row W ab lb zs ∧ (ab = none → cb = 0) ∧ lb ≤ cb ∧ cb ≤ maxLen := by
    obtain ⟨m, hm⟩ := h1
    obtain ⟨a4, l4, c4, rfl⟩ := okWide_slice Try.underlying33 (hval 1 33 v1 rfl rfl)
    have hm2 : DataW.trod enc Try.prog W 0 (fun _ => true) true m 33 [.slice a4 l4 c4] = some (d1, p1) := by simpa [Value.cells] using hm
    rcases open_ints Try.underlying33 Try.underlying5 (by kernel_rfl) hm2 with ⟨hcs, _⟩ | ⟨x, l, c, zs, hcs, _, hl, hmx, hz, _, hcell, hwz⟩
    · injection hcs with hv _
      exact ⟨none, 0, 0, [], hv, Mem.Row.nil, fun _ => rfl, Nat.le_refl _, Nat.zero_le _⟩
    · injection hcs with hv _
      obtain ⟨h1, h2, h3⟩ := Mem.row_of_cells (w := W) (a := some x) (len := l) (cap := c) (zs := zs) (.inr ⟨x, rfl, hl, hmx, by simpa using hz, hcell, hwz⟩)
      exact ⟨some x, l, c, zs.take l, hv, h1, h3, hl, hmx⟩
  have hmx : maxLen = 9223372036854775807 := rfl
  rw [hmx] at hcm hcb
  clear hA0 hval0
  refine (Rec.back_law a c l ab lb cb zs W hl (by omega) (.inl hrow) hnil (by omega)).mono fun e W' ⟨he, bel⟩ => ?_
  subst he
  exact ⟨_, rfl, _, _, _, [], _, [], hW', trodAll_mk1 (shut_bool Try.underlying4 _), (trodAll_cons_mk (Below.trod laidOut (by kernel_rfl) (of_decide_eq_true (by kernel_rfl)) k0 bel lt0) (trodAll_cons_mk (Below.trod laidOut (by kernel_rfl) (of_decide_eq_true (by kernel_rfl)) k1 bel lt1) trodAll_mk0)), rfl, bel.frame _, fun h => by cases h⟩

theorem over : Rows.recordBackRow.holds Try.pinned (OpenSpec.ofChange Rows.recordBackSpec) :=
  OpenClaim.holds_of_wide 5 Try.f5 rfl rfl rfl rfl rfl rfl rfl ⟨rfl, rfl, rfl, rfl, rfl⟩ rfl rfl rfl rfl rfl (by kernel_rfl) Try.func5 (by kernel_rfl)
    (of_decide_eq_true (by kernel_rfl)) (by unfold Func.isWrapper; first | (rw [if_pos (by decide +kernel)]; kernel_rfl) | (rw [if_neg (by decide +kernel)]; exact ⟨rfl, rfl⟩))
    (fun os started H enc _ => lifted os started H enc)

/-- ████ THE STATEMENT ████ -/
theorem proved : Rows.RecordBackSaid := over
end Go.Proofs.Ytkiagflpjloliaa.recordBack

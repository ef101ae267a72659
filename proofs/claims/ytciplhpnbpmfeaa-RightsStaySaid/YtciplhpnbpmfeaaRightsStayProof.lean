/- RightsStay, for every input: the statement's row, lifted from the walk of the law. -/
import Derived.Test.YtciplhpnbpmfeaaRows
import Derived.Test.YtciplhpnbpmfeaaRgtStay
import Derived.WalkKit
import Derived.ProofKit
import Derived.OpenShut
import Derived.ShutString
import Derived.ChangeOld
import Derived.Below
namespace Go.Proofs.Ytciplhpnbpmfeaa.rightsStay
open Go.ChangeShapes Go.WideShapes Go.ChangeAt Go.RowKit
open Go.ChangeMaps (open_string shut_string)
set_option linter.unusedVariables false

theorem own : ownKnob Try.prog.godebug = none := by kernel_rfl
theorem laidOut : laidOutB Try.prog = true := by kernel_rfl

set_option maxRecDepth 100000 in
theorem lifted (os : Os) (started : os.Started) (H : Type) (enc : TypeId × Value → H) :
    ReturnsInHanded {} Try.checked os 4 .any (Rows.rightsStaySpec.pre6 enc Try.prog Try.f4 Rows.rightsStayRow.domain false) (Rows.rightsStaySpec.post enc Try.prog Try.f4 false true false false) := by
  refine returnsInHanded_of_change (C := Try.checked) own started (by kernel_rfl) Try.func4
    (ChangeSpec.witness6 (enc := enc) (C := Try.checked) false ⟨#[], #[.slice none 0 0, .int .u32 0, .int .i64 0, .int .u64 0, .int .u64 0], []⟩ 8 (by kernel_rfl) (by kernel_rfl) (by kernel_rfl) (by kernel_rfl)) ?_
  intro W base args ds gs before hval0 hW hcnd _
  have hval : ∀ (j : Nat) t v, Try.f4.params[j]? = some t → args[j]? = some v → Value.okWide Try.prog W .any base t v := hval0
  have hW' := hW
  obtain ⟨p, q, hA0, hV, rfl, hfz, hnd⟩ := hW
  have hA : DataW.TrodAll enc Try.prog W 0 (fun _ => true) true Try.f4.params.toList args.toList ds p := hA0
  rw [Try.params4] at hA hval
  obtain ⟨v0, vs0, d0, ds0, p0, q0, hargs, rfl, rfl, h0, r0⟩ := trodAll_cons hA
  obtain ⟨v1, vs1, d1, ds1, p1, q1, rfl, rfl, rfl, h1, r1⟩ := trodAll_cons r0
  obtain ⟨v2, vs2, d2, ds2, p2, q2, rfl, rfl, rfl, h2, r2⟩ := trodAll_cons r1
  obtain ⟨v3, vs3, d3, ds3, p3, q3, rfl, rfl, rfl, h3, r3⟩ := trodAll_cons r2
  obtain ⟨v4, vs4, d4, ds4, p4, q4, rfl, rfl, rfl, h4, r4⟩ := trodAll_cons r3
  obtain ⟨rfl, rfl, rfl⟩ := trodAll_nil r4
  obtain rfl : args = #[v0, v1, v2, v3, v4] := by cases args; simp_all
  obtain ⟨rfl, rfl⟩ := trodVars_none hV
  have k0 := h0
  have lt0 : ∀ x ∈ p0, x.block < W.heap.size := by obtain ⟨m, hm⟩ := k0; exact DataW.trod_lt m _ _ _ hm
  have k1 := h1
  have lt1 : ∀ x ∈ p1, x.block < W.heap.size := by obtain ⟨m, hm⟩ := k1; exact DataW.trod_lt m _ _ _ hm
  have k2 := h2
  have lt2 : ∀ x ∈ p2, x.block < W.heap.size := by obtain ⟨m, hm⟩ := k2; exact DataW.trod_lt m _ _ _ hm
  have k3 := h3
  have lt3 : ∀ x ∈ p3, x.block < W.heap.size := by obtain ⟨m, hm⟩ := k3; exact DataW.trod_lt m _ _ _ hm
  have k4 := h4
  have lt4 : ∀ x ∈ p4, x.block < W.heap.size := by obtain ⟨m, hm⟩ := k4; exact DataW.trod_lt m _ _ _ hm
  obtain ⟨s, rfl, hs⟩ : ∃ s : Nat, v1 = .int .u32 (s : Int) ∧ s < 4294967296 := by
    obtain ⟨c, rfl⟩ := okWide_int Try.underlying28 (hval 1 28 v1 rfl rfl)
    obtain ⟨m, hm⟩ := h1
    obtain ⟨n, e, _, hwf⟩ := DataW.trod_int Try.underlying28 hm
    simp [Value.cells] at e
    subst e
    obtain ⟨s, rfl, hs⟩ := Rgt.wfu32 hwf
    exact ⟨s, rfl, hs⟩
  obtain ⟨own, rfl⟩ : ∃ c, v2 = .int .i64 c := by
    obtain ⟨c, hc⟩ := okWide_int Try.underlying3 (hval 2 3 v2 rfl rfl)
    exact ⟨c, hc⟩
  obtain ⟨k, rfl, hk⟩ : ∃ s : Nat, v3 = .int .u64 (s : Int) ∧ s < 18446744073709551616 := by
    obtain ⟨c, rfl⟩ := okWide_int Try.underlying29 (hval 3 29 v3 rfl rfl)
    obtain ⟨m, hm⟩ := h3
    obtain ⟨n, e, _, hwf⟩ := DataW.trod_int Try.underlying29 hm
    simp [Value.cells] at e
    subst e
    obtain ⟨s, rfl, hs⟩ := Rgt.wfu64 hwf
    exact ⟨s, rfl, hs⟩
  obtain ⟨o, rfl, ho⟩ : ∃ s : Nat, v4 = .int .u64 (s : Int) ∧ s < 18446744073709551616 := by
    obtain ⟨c, rfl⟩ := okWide_int Try.underlying29 (hval 4 29 v4 rfl rfl)
    obtain ⟨m, hm⟩ := h4
    obtain ⟨n, e, _, hwf⟩ := DataW.trod_int Try.underlying29 hm
    simp [Value.cells] at e
    subst e
    obtain ⟨s, rfl, hs⟩ := Rgt.wfu64 hwf
    exact ⟨s, rfl, hs⟩
  obtain ⟨a, l, c, rfl, hD, hlc, hcm⟩ : ∃ (a : Option Addr) (l : List Rgt.Deed) (c : Nat), v0 = .slice a l.length c ∧ Rgt.Deeds W a l ∧ l.length ≤ c ∧ c ≤ maxLen := by
    obtain ⟨m, hm⟩ := h0
    obtain ⟨a4, l4, c4, rfl⟩ := okWide_slice Try.underlying22 (hval 0 22 v0 rfl rfl)
    exact Rgt.deeds_read (by simpa [Value.cells] using hm)
  have hmx : maxLen = 9223372036854775807 := rfl
  rw [hmx] at hcm
  clear hA0 hval0
  have walk : Calls Try.prog 4 #[.slice a l.length c, .int .u32 (s : Int), .int .i64 own, .int .u64 (k : Int), .int .u64 (o : Int)] W fun e w' => e = .returned (.bool true) ∧ Below W.heap.size W w' := by
    by_cases h : 90 < l.length ∨ own < 1 ∨ 7 < own
    · exact (Rgt.stay_away s own k o h (by omega)).mono (fun e w' h => ⟨h.1, h.2.new⟩)
    · exact (Rgt.stay_any hD (by omega) hs (by omega) hk).mono (fun e w' h => ⟨h.1, h.2.new⟩)
  refine walk.mono fun e W' ⟨he, bel⟩ => ?_
  subst he
  exact ⟨_, rfl, _, _, _, [], _, [], hW', trodAll_mk1 (shut_bool Try.underlying4 _), (trodAll_cons_mk (Below.trod laidOut (by kernel_rfl) (of_decide_eq_true (by kernel_rfl)) k0 bel lt0) (trodAll_cons_mk (Below.trod laidOut (by kernel_rfl) (of_decide_eq_true (by kernel_rfl)) k1 bel lt1) (trodAll_cons_mk (Below.trod laidOut (by kernel_rfl) (of_decide_eq_true (by kernel_rfl)) k2 bel lt2) (trodAll_cons_mk (Below.trod laidOut (by kernel_rfl) (of_decide_eq_true (by kernel_rfl)) k3 bel lt3) (trodAll_cons_mk (Below.trod laidOut (by kernel_rfl) (of_decide_eq_true (by kernel_rfl)) k4 bel lt4) trodAll_mk0))))), rfl, bel.frame _, fun h => by cases h⟩

theorem over : Rows.rightsStayRow.holds Try.pinned (OpenSpec.ofChange Rows.rightsStaySpec) :=
  OpenClaim.holds_of_wide 4 Try.f4 rfl rfl rfl rfl rfl rfl rfl ⟨rfl, rfl, rfl, rfl, rfl⟩ rfl rfl rfl rfl rfl (by kernel_rfl) Try.func4 (by kernel_rfl)
    (of_decide_eq_true (by kernel_rfl)) (by unfold Func.isWrapper; first | (rw [if_pos (by decide +kernel)]; kernel_rfl) | (rw [if_neg (by decide +kernel)]; exact ⟨rfl, rfl⟩))
    (fun os started H enc _ => lifted os started H enc)

/-- ████ THE STATEMENT ████ -/
theorem proved : Rows.RightsStaySaid := over
end Go.Proofs.Ytciplhpnbpmfeaa.rightsStay

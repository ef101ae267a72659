/- BucketMakes, for every input: the statement's row, lifted from the walk of the law. -/
import Derived.Test.YtgjofinbdigmcaaRows
import Derived.Test.YtgjofinbdigmcaaBukMakes
import Derived.WalkKit
import Derived.ProofKit
import Derived.OpenShut
import Derived.ShutString
import Derived.ChangeOld
import Derived.Below
namespace Go.Proofs.Ytgjofinbdigmcaa.bucketMakes
open Go.ChangeShapes Go.WideShapes Go.ChangeAt Go.RowKit
open Go.ChangeMaps (open_string shut_string)
set_option linter.unusedVariables false

theorem own : ownKnob Try.prog.godebug = none := by kernel_rfl
theorem laidOut : laidOutB Try.prog = true := by kernel_rfl

set_option maxRecDepth 100000 in
theorem lifted (os : Os) (started : os.Started) (H : Type) (enc : TypeId × Value → H) :
    ReturnsInHanded {} Try.checked os 3 .any (Rows.bucketMakesSpec.pre6 enc Try.prog Try.f3 Rows.bucketMakesRow.domain false) (Rows.bucketMakesSpec.post enc Try.prog Try.f3 false true false false) := by
  refine returnsInHanded_of_change (C := Try.checked) own started (by kernel_rfl) Try.func3
    (ChangeSpec.witness6 (enc := enc) (C := Try.checked) false ⟨#[], #[.agg #[.int .i64 0, .int .i64 0, .int .i64 0], .slice none 0 0, .string ⟨#[]⟩, .string ⟨#[]⟩], []⟩ 8 (by kernel_rfl) (by kernel_rfl) (by kernel_rfl) (by kernel_rfl)) ?_
  intro W base args ds gs before hval0 hW hcnd _
  have hval : ∀ (j : Nat) t v, Try.f3.params[j]? = some t → args[j]? = some v → Value.okWide Try.prog W .any base t v := hval0
  have hW' := hW
  obtain ⟨p, q, hA0, hV, rfl, hfz, hnd⟩ := hW
  have hA : DataW.TrodAll enc Try.prog W 0 (fun _ => true) true Try.f3.params.toList args.toList ds p := hA0
  rw [Try.params3] at hA hval
  obtain ⟨v0, vs0, d0, ds0, p0, q0, hargs, rfl, rfl, h0, r0⟩ := trodAll_cons hA
  obtain ⟨v1, vs1, d1, ds1, p1, q1, rfl, rfl, rfl, h1, r1⟩ := trodAll_cons r0
  obtain ⟨v2, vs2, d2, ds2, p2, q2, rfl, rfl, rfl, h2, r2⟩ := trodAll_cons r1
  obtain ⟨v3, vs3, d3, ds3, p3, q3, rfl, rfl, rfl, h3, r3⟩ := trodAll_cons r2
  obtain ⟨rfl, rfl, rfl⟩ := trodAll_nil r3
  obtain rfl : args = #[v0, v1, v2, v3] := by cases args; simp_all
  obtain ⟨rfl, rfl⟩ := trodVars_none hV
  have k0 := h0
  have lt0 : ∀ x ∈ p0, x.block < W.heap.size := by obtain ⟨m, hm⟩ := k0; exact DataW.trod_lt m _ _ _ hm
  have k1 := h1
  have lt1 : ∀ x ∈ p1, x.block < W.heap.size := by obtain ⟨m, hm⟩ := k1; exact DataW.trod_lt m _ _ _ hm
  obtain ⟨key, rfl, rfl, rfl, w2⟩ := open_string Try.underlying9 (hval 2 9 v2 rfl rfl) h2
  obtain ⟨val, rfl, rfl, rfl, w3⟩ := open_string Try.underlying9 (hval 3 9 v3 rfl rfl) h3
  obtain ⟨qa, qb, qc, rfl⟩ : ∃ qa qb qc : Int, v0 = .agg #[.int .i64 qa, .int .i64 qb, .int .i64 qc] := by
    obtain ⟨cs, rfl, _⟩ := okWide_struct Try.underlying23 (hval 0 23 v0 rfl rfl)
    obtain ⟨m, hm⟩ := h0
    obtain ⟨qa, qb, qc, hr⟩ := Buk.quota_open hm
    refine ⟨qa, qb, qc, ?_⟩
    have : cs = (#[.int .i64 qa, .int .i64 qb, .int .i64 qc] : Array Value) := Array.toList_inj.1 (by simpa [Value.cells] using hr)
    rw [this]
  obtain ⟨a, l, c, rfl, hD, hlc, hcm⟩ : ∃ (a : Option Addr) (l : List Buk.Deed) (c : Nat), v1 = .slice a l.length c ∧ Buk.Deeds W a l ∧ l.length ≤ c ∧ c ≤ maxLen := by
    obtain ⟨m, hm⟩ := h1
    obtain ⟨a4, l4, c4, rfl⟩ := okWide_slice Try.underlying24 (hval 1 24 v1 rfl rfl)
    exact Buk.deeds_read (by simpa [Value.cells] using hm)
  have hmx : maxLen = 9223372036854775807 := rfl
  have w2' := w2
  have w3' := w3
  rw [hmx] at hcm w2' w3'
  clear hA0 hval0
  have walk : Calls Try.prog 3 #[.agg #[.int .i64 qa, .int .i64 qb, .int .i64 qc], .slice a l.length c, .string key, .string val] W fun e w' => e = .returned (.bool true) ∧ Below W.heap.size W w' := by
    by_cases h : l.length ≤ 100 ∧ 1 ≤ key.size ∧ key.size ≤ 64 ∧ val.size ≤ 1000 ∧ Buk.QIn qa qb qc
    · exact (Buk.makes_any qa qb qc a l c key val W hD h).mono (fun e w' h => ⟨h.1, h.2.new⟩)
    · exact (Buk.makes_away qa qb qc a l.length c key val W (by omega) w2' w3' h).mono (fun e w' h => ⟨h.1, h.2.new⟩)
  refine walk.mono fun e W' ⟨he, bel⟩ => ?_
  subst he
  exact ⟨_, rfl, _, _, _, [], _, [], hW', trodAll_mk1 (shut_bool Try.underlying4 _), (trodAll_cons_mk (Below.trod laidOut (by kernel_rfl) (of_decide_eq_true (by kernel_rfl)) k0 bel lt0) (trodAll_cons_mk (Below.trod laidOut (by kernel_rfl) (of_decide_eq_true (by kernel_rfl)) k1 bel lt1) (trodAll_cons_mk (shut_string Try.underlying9 w2) (trodAll_cons_mk (shut_string Try.underlying9 w3) trodAll_mk0)))), rfl, bel.frame _, fun h => by cases h⟩

theorem over : Rows.bucketMakesRow.holds Try.pinned (OpenSpec.ofChange Rows.bucketMakesSpec) :=
  OpenClaim.holds_of_wide 3 Try.f3 rfl rfl rfl rfl rfl rfl rfl ⟨rfl, rfl, rfl, rfl, rfl⟩ rfl rfl rfl rfl rfl (by kernel_rfl) Try.func3 (by kernel_rfl)
    (of_decide_eq_true (by kernel_rfl)) (by unfold Func.isWrapper; first | (rw [if_pos (by decide +kernel)]; kernel_rfl) | (rw [if_neg (by decide +kernel)]; exact ⟨rfl, rfl⟩))
    (fun os started H enc _ => lifted os started H enc)

/-- ████ THE STATEMENT ████ -/
theorem proved : Rows.BucketMakesSaid := over
end Go.Proofs.Ytgjofinbdigmcaa.bucketMakes

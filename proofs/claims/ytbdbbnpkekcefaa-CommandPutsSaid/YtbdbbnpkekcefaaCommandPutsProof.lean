/- CommandPuts, for every input: the statement's row, lifted from the walk of the law. -/
import Derived.Test.YtbdbbnpkekcefaaRows
import Derived.Test.YtbdbbnpkekcefaaCmdPuts
import Derived.WalkKit
import Derived.ProofKit
import Derived.OpenShut
import Derived.ShutString
import Derived.ChangeOld
import Derived.Below
namespace Go.Proofs.Ytbdbbnpkekcefaa.commandPuts
open Go.ChangeShapes Go.WideShapes Go.ChangeAt Go.RowKit
open Go.ChangeMaps (open_string shut_string)
set_option linter.unusedVariables false

theorem own : ownKnob Try.prog.godebug = none := by kernel_rfl
theorem laidOut : laidOutB Try.prog = true := by kernel_rfl
theorem walk (q : Cmd.Rq) (hi : Cmd.RqIs q) (sv : Value) (r : Cmd.Rs) (hr : Cmd.RsIn r) (pv bv : Value) (w : World) (hops : Cmd.OpsAt w sv q.ops) (hl : q.ops.length ≤ 9223372036854775807) (hp : Cmd.ShowsFrom Cmd.pcells 2 0 w pv r.page) (hb : Cmd.ShowsFrom Cmd.icells 1 0 w bv r.buckets) :
    Calls Try.prog 4 #[Cmd.rv q sv, Cmd.rsv r pv bv] w fun e w' => e = .returned (.bool true) ∧ Below w.heap.size w w' :=
  Cmd.puts_any q hi sv r hr pv bv w hops hl hp hb

set_option maxRecDepth 100000 in
theorem lifted (os : Os) (started : os.Started) (H : Type) (enc : TypeId × Value → H) :
    ReturnsInHanded {} Try.checked os 4 .any (Rows.commandPutsSpec.pre6 enc Try.prog Try.f4 Rows.commandPutsRow.domain false) (Rows.commandPutsSpec.post enc Try.prog Try.f4 false true false false) := by
  refine returnsInHanded_of_change (C := Try.checked) own started (by kernel_rfl) Try.func4
    (ChangeSpec.witness6 (enc := enc) (C := Try.checked) false ⟨#[], #[.agg #[.int .i64 0, .int .u64 0, .int .i64 0, .int .i64 0, .int .i64 0, .int .i64 0, .int .i64 0, .int .u32 0, .int .u32 0, .int .u64 0, .slice none 0 0, .string ⟨#[]⟩, .bool false, .int .i64 0, .int .i64 0, .int .u32 0], .agg #[.int .i64 0, .int .i64 0, .int .u32 0, .int .u32 0, .int .u64 0, .int .u64 0, .string ⟨#[]⟩, .slice none 0 0, .bool false, .int .i64 0, .int .i64 0, .int .i64 0, .int .u64 0, .slice none 0 0]], []⟩ 8 (by kernel_rfl) (by kernel_rfl) (by kernel_rfl) (by kernel_rfl)) ?_
  intro W base args ds gs before hval0 hW hcnd _
  have hval : ∀ (j : Nat) t v, Try.f4.params[j]? = some t → args[j]? = some v → Value.okWide Try.prog W .any base t v := hval0
  have hW' := hW
  obtain ⟨p, q, hA0, hV, rfl, hfz, hnd⟩ := hW
  have hA : DataW.TrodAll enc Try.prog W 0 (fun _ => true) true Try.f4.params.toList args.toList ds p := hA0
  rw [Try.params4] at hA hval
  obtain ⟨v0, vs0, d0, ds0, p0, q0, hargs, rfl, rfl, h0, r0⟩ := trodAll_cons hA
  obtain ⟨v1, vs1, d1, ds1, p1, q1, rfl, rfl, rfl, h1, r1⟩ := trodAll_cons r0
  obtain ⟨rfl, rfl, rfl⟩ := trodAll_nil r1
  obtain rfl : args = #[v0, v1] := by cases args; simp_all
  obtain ⟨rfl, rfl⟩ := trodVars_none hV
  have k0 := h0
  have lt0 : ∀ x ∈ p0, x.block < W.heap.size := by obtain ⟨m, hm⟩ := k0; exact DataW.trod_lt m _ _ _ hm
  have k1 := h1
  have lt1 : ∀ x ∈ p1, x.block < W.heap.size := by obtain ⟨m, hm⟩ := k1; exact DataW.trod_lt m _ _ _ hm
  obtain ⟨qq, sv, rfl, hi, hops, hl⟩ : ∃ (qq : Cmd.Rq) (sv : Value), v0 = Cmd.rv qq sv ∧ Cmd.RqIs qq ∧ Cmd.OpsAt W sv qq.ops ∧ qq.ops.length ≤ 9223372036854775807 := by
    obtain ⟨cs, rfl, _⟩ := okWide_struct Try.underlying32 (hval 0 32 v0 rfl rfl)
    obtain ⟨m, hm⟩ := h0
    obtain ⟨qq, sv, hr, hi, hops, hl⟩ := Cmd.req_read hm
    refine ⟨qq, sv, ?_, hi, hops, hl⟩
    have : cs = Cmd.rcells qq sv := Array.toList_inj.1 (by simpa [Value.cells] using hr)
    rw [this]
    rfl
  obtain ⟨rr, pv, bv, rfl, hr, hp, hb⟩ : ∃ (rr : Cmd.Rs) (pv bv : Value), v1 = Cmd.rsv rr pv bv ∧ Cmd.RsIn rr ∧ Cmd.ShowsFrom Cmd.pcells 2 0 W pv rr.page ∧ Cmd.ShowsFrom Cmd.icells 1 0 W bv rr.buckets := by
    obtain ⟨cs, rfl, _⟩ := okWide_struct Try.underlying49 (hval 1 49 v1 rfl rfl)
    obtain ⟨m, hm⟩ := h1
    obtain ⟨rr, pv, bv, hrr, hr, hp, hb⟩ := Cmd.resp_read hm
    refine ⟨rr, pv, bv, ?_, hr, hp, hb⟩
    have : cs = Cmd.scells rr pv bv := Array.toList_inj.1 (by simpa [Value.cells] using hrr)
    rw [this]
    rfl
  clear hA0 hval0
  refine (walk qq hi sv rr hr pv bv W hops hl hp hb).mono fun e W' ⟨he, bel⟩ => ?_
  subst he
  exact ⟨_, rfl, _, _, _, [], _, [], hW', trodAll_mk1 (shut_bool Try.underlying4 _), (trodAll_cons_mk (Below.trod laidOut (by kernel_rfl) (of_decide_eq_true (by kernel_rfl)) k0 bel lt0) (trodAll_cons_mk (Below.trod laidOut (by kernel_rfl) (of_decide_eq_true (by kernel_rfl)) k1 bel lt1) trodAll_mk0)), rfl, bel.frame _, fun h => by cases h⟩

theorem over : Rows.commandPutsRow.holds Try.pinned (OpenSpec.ofChange Rows.commandPutsSpec) :=
  OpenClaim.holds_of_wide 4 Try.f4 rfl rfl rfl rfl rfl rfl rfl ⟨rfl, rfl, rfl, rfl, rfl⟩ rfl rfl rfl rfl rfl (by kernel_rfl) Try.func4 (by kernel_rfl)
    (of_decide_eq_true (by kernel_rfl)) (by unfold Func.isWrapper; first | (rw [if_pos (by decide +kernel)]; kernel_rfl) | (rw [if_neg (by decide +kernel)]; exact ⟨rfl, rfl⟩))
    (fun os started H enc _ => lifted os started H enc)

/-- ████ THE STATEMENT ████ -/
theorem proved : Rows.CommandPutsSaid := over
end Go.Proofs.Ytbdbbnpkekcefaa.commandPuts

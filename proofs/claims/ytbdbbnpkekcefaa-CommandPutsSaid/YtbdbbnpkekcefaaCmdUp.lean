/- The document's example, at the head of all statements: the walk of the law's up. -/
import Derived.Test.YtbdbbnpkekcefaaCmdParse
import Derived.Test.YtbdbbnpkekcefaaCmdCPut
import Derived.Test.YtbdbbnpkekcefaaErr
namespace Go.Proofs.Ytbdbbnpkekcefaa.Cmd
open Go.Proofs.Ytbdbbnpkekcefaa.Mem Go.Proofs.Ytbdbbnpkekcefaa.Pack Go.Proofs.Ytbdbbnpkekcefaa.Err
open Go.ChangeShapes Go.WideShapes Go.ChangeAt Go.RowKit
set_option linter.unusedVariables false
set_option linter.unusedSimpArgs false

def mergeRq : Rq := ⟨4, 1, 0, zeroQuo, zeroTok, [], nothing, false, 0, 0, 0⟩
theorem merge_is : RqIs mergeRq := ⟨by unfold I64 mergeRq; simp, by unfold mergeRq; simp, i64_zero, zeroQuo_is, zeroTok_is.so, (fun o h => by cases h), i64_zero, i64_zero, by unfold mergeRq; simp⟩
theorem zero_is : RqIs zeroRq := ⟨i64_zero, by unfold zeroRq; simp, i64_zero, zeroQuo_is, zeroTok_is.so, (fun o h => by cases h), i64_zero, i64_zero, by unfold zeroRq; simp⟩
theorem merge_bytes : bytesOf mergeRq = [4, 1, 0, 0, 0, 0, 0, 0, 0] := by decide
theorem merge_may : mayPut mergeRq := by
  refine ⟨by decide, ?_⟩
  unfold mergeRq
  rfl
theorem zero_not : ¬ mayPut zeroRq := fun h => by
  have := lim_tag h.1
  unfold zeroRq at this
  simp at this
theorem nil_not : isRq [] = false := by decide
def dcells : Array Value := #[.int .i64 7, .int .i64 0, .int .u32 0, .int .u32 0, .int .u64 0, .int .u64 0, .string ⟨#[]⟩, .slice none 0 0, .bool false, .int .i64 0, .int .i64 0, .int .i64 0, .int .u64 0, .slice none 0 0]
theorem resp_size : (Try.prog.info? 49).map (·.size) = some 14 := by kernel_rfl
theorem code_field (w : World) : (Instr.field 49 (.agg #[.int .i64 7, .int .i64 0, .int .u32 0, .int .u32 0, .int .u64 0, .int .u64 0, .string ⟨#[]⟩, .slice none 0 0, .bool false, .int .i64 0, .int .i64 0, .int .i64 0, .int .u64 0, .slice none 0 0]) 0).run Try.prog w = .ok (.int .i64 7) w := by
  unfold Instr.field
  simp [run_underlying Try.underlying49, Program.fieldsOf, Try.underlying49, Go.part, isAgg, run_underlying Try.underlying3, asAgg]
set_option maxHeartbeats 1000000 in
theorem denied_any (w : World) : Calls Try.prog 19 #[] w fun e w' => e = .returned (.agg dcells) ∧ Below w.heap.size w w' := by
  have hb : Blk (w.alloc (.cells dcells 49)) w.heap.size 49 dcells := Blk.new _ _ _
  have HB := Lib.hid hb
  have HW := Lib.hid ((Below.refl w.heap.size w).alloc (Nat.le_refl _) (.cells dcells 49))
  have HS := Lib.hid (resp_size.trans (show some 14 = some dcells.size from rfl))
  unfold dcells at HB HW HS ⊢
  clear hb
  go_enter Try.func19, Try.ntmps19
  go_wp2_with fail
  refine bodyPost_ret (results_cell_row rfl _ _ w.heap.size 49 _ (0, 0) _ rfl HB.out Try.underlying49 rfl HS.out) rfl ?_
  exact ⟨rfl, HW.out⟩
set_option maxRecDepth 100000 in
set_option maxHeartbeats 4000000 in
theorem up_any (w : World) : Calls Try.prog 6 #[] w fun e w' => e = .returned (.bool true) ∧ Below w.heap.size w w' := by
  have k1 := cPut_any mergeRq merge_is (.slice none 0 0) w (OpsAt.nil w)
  have k2 := fun w => cparse_any none 0 [] w Row.nil (fun _ => rfl) (by simp)
  have k3 := fun w => cPut_any zeroRq zero_is (.slice none 0 0) w (OpsAt.nil w)
  have ke := code_eql
  unfold PutSays at k1 k3
  unfold ParseIs at k2
  rw [merge_bytes] at k1
  rw [rzero_rv] at k2
  simp only [rv, rcells, mergeRq, zeroRq, zeroQuo, zeroTok, nothing, List.length_nil] at k1 k2 k3
  have HM := Lib.hid merge_may
  have HZ := Lib.hid zero_not
  have HN := Lib.hid nil_not
  unfold mergeRq zeroQuo zeroTok nothing at HM
  unfold zeroRq zeroQuo zeroTok nothing at HZ
  have K2 := Lib.hid k2
  have K3 := Lib.hid k3
  clear k2 k3
  go_enter Try.func6, Try.ntmps6
  go_wp2_with fail
  refine k1.mono ?_
  rintro e w1 ⟨hb1, ⟨hm, v, rfl, ho⟩ | ⟨hm, -⟩⟩
  rotate_left
  · exact absurd HM.out hm
  clear hm k1
  obtain ⟨a1, c1, rfl, hr1, -, -⟩ := own_shape ho (show Bytes [4, 1, 0, 0, 0, 0, 0, 0, 0] by rw [← merge_bytes]; exact bytesOf_bytes _)
  have HR1 := Lib.hid hr1
  have HB1 := Lib.hid hb1
  clear hr1 hb1 ho
  go_wp2_with fail
  refine (K2.out _).mono ?_
  rintro e w2 ⟨hb2, ⟨hm, -⟩ | ⟨hm, rfl⟩⟩
  · rw [HN.out] at hm; cases hm
  have HB2 := Lib.hid (HB1.out.trans (hb2.mono HB1.out.size))
  have HR2 := Lib.hid (HR1.out.below hb2)
  clear hm hb2 HR1 HB1 K2
  have hb3 : But (fun _ => False) w2 (w2.alloc (.cells rzero 32)) := (But.refl _ w2).alloc _
  have HB3 := Lib.hid (HB2.out.alloc HB2.out.size (.cells rzero 32))
  have HR3 := Lib.hid (HR2.out.but hb3 (fun _ _ _ e => e))
  clear hb3 HR2 HB2
  unfold rzero at HB3 HR3 ⊢
  go_wp2_with fail
  refine (K3.out _).mono ?_
  rintro e w4 ⟨hb4, ⟨hm, -⟩ | ⟨hm, rfl⟩⟩
  · exact absurd hm HZ.out
  have HB4 := Lib.hid (HB3.out.trans (hb4.mono HB3.out.size))
  have hs1 := fun dst hd => run_string_row (P := Try.prog) (HR3.out.below hb4) 22 5 dst Try.underlying22 Try.underlying5 hd c1
  have hst : strOfNums [4, 1, 0, 0, 0, 0, 0, 0, 0] = ⟨#[4, 1, 0, 0, 0, 0, 0, 0, 0]⟩ := by rfl
  rw [hst] at hs1
  simp only [List.length_cons, List.length_nil, Nat.zero_add, Nat.reduceAdd] at hs1 ⊢
  have hd := denied_any w4
  unfold dcells at hd
  clear hst hm hb4 HB3 HR3 K3
  go_wp2_with fail
  refine hd.mono ?_
  rintro e w5 ⟨rfl, hb5⟩
  have HB5 := Lib.hid (HB4.out.trans (hb5.mono HB4.out.size))
  have kf := code_field
  clear hb5 hd hs1
  go_wp2_with fail
  go_ret
  exact ⟨rfl, HB5.out⟩
end Go.Proofs.Ytbdbbnpkekcefaa.Cmd

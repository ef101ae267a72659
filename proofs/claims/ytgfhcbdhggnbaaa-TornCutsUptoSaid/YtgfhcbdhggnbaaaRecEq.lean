/- Two records' values are one just if the records are. -/
import Derived.Test.YtgfhcbdhggnbaaaProg
import Derived.Test.YtgfhcbdhggnbaaaRecMath
import Derived.WalkKit
import Derived.ProofKit
import Derived.Laws.StructEq
namespace Go.Proofs.Ytgfhcbdhggnbaaa.Rec
open Go.Proofs.Ytgfhcbdhggnbaaa.Mem Go.Proofs.Ytgfhcbdhggnbaaa.Pack
set_option linter.unusedVariables false

section
variable {P : Program} {d : Nat} {xs ys : Array Value} {f : Field} {fs : List Field} {w : World}
theorem eq_end : (Op.eqFields d xs ys []).run P w = .ok true w := by simp [Op.eqFields]
theorem eq_field {u v : Value} {c r : Bool} (hn : f.name ≠ "_") (h1 : (part f.type xs f.offset).run P w = .ok u w) (h2 : (part f.type ys f.offset).run P w = .ok v w) (h3 : (Op.equalIn d f.type u v).run P w = .ok c w) (h4 : (Op.eqFields d xs ys fs).run P w = .ok r w) :
    (Op.eqFields d xs ys (f :: fs)).run P w = .ok (c && r) w := by
  rw [Op.eqFields, if_pos hn]
  simp only [Sem.run_bind, h1, h2, h3, Result.andThen_ok, Sem.run_ite]
  cases c
  · simp
  · simpa using h4
theorem part_one {t : TypeId} {cs : Array Value} {off : Nat} {u : Value} (ha : (isAgg t).run P w = .ok false w) (h : cs[off]? = some u) : (part t cs off).run P w = .ok u w := by
  unfold part
  simp [ha, h]
theorem part_agg {t : TypeId} {cs : Array Value} {off n : Nat} (ha : (isAgg t).run P w = .ok true w) (hs : (sizeOf t).run P w = .ok n w) : (part t cs off).run P w = .ok (.agg (cs.extract off (off + n))) w := by
  unfold part
  simp [ha, hs]
end
theorem str_beq (a b : ByteArray) : (a.toList == b.toList) = decide (a = b) := by
  rw [ByteArray.toList_eq, ByteArray.toList_eq, Bool.eq_iff_iff]
  obtain ⟨⟨x⟩⟩ := a
  obtain ⟨⟨y⟩⟩ := b
  simp
theorem agg_int (w : World) : (isAgg 3).run Try.prog w = .ok false w ∧ (isAgg 2).run Try.prog w = .ok false w ∧ (isAgg 51).run Try.prog w = .ok false w ∧ (isAgg 54).run Try.prog w = .ok false w ∧ (isAgg 9).run Try.prog w = .ok false w := by
  refine ⟨?_, ?_, ?_, ?_, ?_⟩
  · simp [isAgg, run_underlying Try.underlying3]
  · simp [isAgg, run_underlying Try.underlying2]
  · simp [isAgg, run_underlying Try.underlying51]
  · simp [isAgg, run_underlying Try.underlying54]
  · simp [isAgg, run_underlying Try.underlying9]
theorem agg_quota (w : World) : (isAgg 53).run Try.prog w = .ok true w := by
  simp [isAgg, run_underlying Try.underlying53]
theorem size_quota (w : World) : (sizeOf 53).run Try.prog w = .ok 3 w := by
  have h : (Try.prog.info? 53).map (·.size) = some 3 := by kernel_rfl
  obtain ⟨i, hi, hc⟩ := Option.map_eq_some_iff.1 h
  simp [sizeOf, typeInfo, hi, hc]
theorem quota_deep (d : Nat) (a b c x y z : Int) (w : World) : (Op.equalIn (d + 1 + 1) 53 (.agg #[.int .i64 a, .int .i64 b, .int .i64 c]) (.agg #[.int .i64 x, .int .i64 y, .int .i64 z])).run Try.prog w = .ok (a == x && (b == y && (c == z && true))) w := by
  have h2 : Try.prog.stoodInHeld 53 = false := by kernel_rfl
  obtain ⟨_, ki, _, _, _⟩ := agg_int w
  rw [run_equalIn_struct _ _ _ _ _ (by kernel_rfl) h2]
  obtain ⟨fs, hfs⟩ : ∃ fs, (Try.prog.fieldsOf 53).toList = fs := ⟨_, rfl⟩
  rw [hfs]
  simp [Program.fieldsOf, Try.underlying53] at hfs
  subst hfs
  refine eq_field (by decide) (part_one ki rfl) (part_one ki rfl) (run_equalIn_int _ _ _ _ _ _ _ Try.underlying2) ?_
  refine eq_field (by decide) (part_one ki rfl) (part_one ki rfl) (run_equalIn_int _ _ _ _ _ _ _ Try.underlying2) ?_
  exact eq_field (by decide) (part_one ki rfl) (part_one ki rfl) (run_equalIn_int _ _ _ _ _ _ _ Try.underlying2) eq_end
theorem rec_equal (a b : Rcd) (w : World) : (Op.equal 56 (rv a) (rv b)).run Try.prog w = .ok (decide (a = b)) w := by
  have h1 : Try.prog.stoodInHeld 56 = false := by kernel_rfl
  obtain ⟨k0, k1, k2, k3, k4⟩ := agg_int w
  unfold Op.equal rv
  rw [show Op.maxDepth = 9997 + 1 + 1 + 1 from rfl, run_equalIn_struct _ _ _ _ _ (by kernel_rfl) h1]
  obtain ⟨fs, hfs⟩ : ∃ fs, (Try.prog.fieldsOf 56).toList = fs := ⟨_, rfl⟩
  rw [hfs]
  simp [Program.fieldsOf, Try.underlying56] at hfs
  subst hfs
  have key : decide (a = b) = (a.kind == b.kind && (a.bucket == b.bucket && (((a.gen : Int) == (b.gen : Int)) && ((a.keys == b.keys && (a.bytes == b.bytes && (a.budget == b.budget && true))) && (((a.seq : Int) == (b.seq : Int)) && (((a.serial : Int) == (b.serial : Int)) && (a.rights == b.rights && (((a.secret : Int) == (b.secret : Int)) && (a.key.toList == b.key.toList && (a.val.toList == b.val.toList && (((a.version : Int) == (b.version : Int)) && (((a.expiry : Int) == (b.expiry : Int)) && true)))))))))))) := by
    obtain ⟨⟩ := a
    obtain ⟨⟩ := b
    rw [str_beq, str_beq, Bool.eq_iff_iff]
    simp [Int.natCast_inj, and_assoc]
  rw [key]
  refine eq_field (by decide) (part_one k0 rfl) (part_one k0 rfl) (run_equalIn_int _ _ _ _ _ _ _ Try.underlying3) ?_
  refine eq_field (by decide) (part_one k0 rfl) (part_one k0 rfl) (run_equalIn_int _ _ _ _ _ _ _ Try.underlying3) ?_
  refine eq_field (by decide) (part_one k2 rfl) (part_one k2 rfl) (run_equalIn_int _ _ _ _ _ _ _ Try.underlying51) ?_
  refine eq_field (by decide) (part_agg (agg_quota w) (size_quota w)) (part_agg (agg_quota w) (size_quota w)) (quota_deep 9997 _ _ _ _ _ _ w) ?_
  refine eq_field (by decide) (part_one k3 rfl) (part_one k3 rfl) (run_equalIn_int _ _ _ _ _ _ _ Try.underlying54) ?_
  refine eq_field (by decide) (part_one k2 rfl) (part_one k2 rfl) (run_equalIn_int _ _ _ _ _ _ _ Try.underlying51) ?_
  refine eq_field (by decide) (part_one k0 rfl) (part_one k0 rfl) (run_equalIn_int _ _ _ _ _ _ _ Try.underlying3) ?_
  refine eq_field (by decide) (part_one k3 rfl) (part_one k3 rfl) (run_equalIn_int _ _ _ _ _ _ _ Try.underlying54) ?_
  refine eq_field (by decide) (part_one k4 rfl) (part_one k4 rfl) (run_equalIn_string _ _ _ _ _ Try.underlying9) ?_
  refine eq_field (by decide) (part_one k4 rfl) (part_one k4 rfl) (run_equalIn_string _ _ _ _ _ Try.underlying9) ?_
  refine eq_field (by decide) (part_one k3 rfl) (part_one k3 rfl) (run_equalIn_int _ _ _ _ _ _ _ Try.underlying54) ?_
  exact eq_field (by decide) (part_one k3 rfl) (part_one k3 rfl) (run_equalIn_int _ _ _ _ _ _ _ Try.underlying54) eq_end
theorem rec_eql (a b : Rcd) (w : World) : (binOp .eql 56 (rv a) (rv b)).run Try.prog w = .ok (.bool (decide (a = b))) w := by
  have h := rec_equal a b w
  unfold rv at h ⊢
  simp [binOp, h]
theorem rec_neq (a b : Rcd) (w : World) : (binOp .neq 56 (rv a) (rv b)).run Try.prog w = .ok (.bool (!decide (a = b))) w := by
  have h := rec_equal a b w
  unfold rv at h ⊢
  simp [binOp, h]
end Go.Proofs.Ytgfhcbdhggnbaaa.Rec

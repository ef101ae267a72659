/- Two records of one token are one value. -/
import Derived.Test.YtciplhpnbpmfeaaRgtSpot
import Derived.Laws.StructEq
namespace Go.Proofs.Ytciplhpnbpmfeaa.Rgt
open Go.Proofs.Ytciplhpnbpmfeaa.Mem
set_option linter.unusedVariables false
set_option linter.unusedSimpArgs false
section
variable {P : Program} {d : Nat} {xs ys : Array Value} {f : Field} {fs : List Field} {w : World}
theorem eq_end : (Op.eqFields d xs ys []).run P w = .ok true w := by simp [Op.eqFields]
theorem eq_field {u v : Value} {c r : Bool} (hn : f.name ≠ "_") (h1 : (part f.type xs f.offset).run P w = .ok u w) (h2 : (part f.type ys f.offset).run P w = .ok v w) (h3 : (Op.equalIn d f.type u v).run P w = .ok c w) (h4 : (Op.eqFields d xs ys fs).run P w = .ok r w) :
    (Op.eqFields d xs ys (f :: fs)).run P w = .ok (c && r) w := by
  rw [Op.eqFields, if_pos hn]
  simp only [Sem.run_bind, h1, h2, h3, Result.andThen_ok, Sem.run_ite]
  cases c
  · simp
  · simpa using h4
theorem part_one {t : TypeId} {cs : Array Value} {off : Nat} {u : Value} (ha : (isAgg t).run P w = .ok false w) (h : cs[off]? = some u) : (part t cs off).run P w = .ok u w := by
  unfold part
  simp [ha, h]
theorem part_agg {t : TypeId} {cs : Array Value} {off n : Nat} (ha : (isAgg t).run P w = .ok true w) (hs : (sizeOf t).run P w = .ok n w) : (part t cs off).run P w = .ok (.agg (cs.extract off (off + n))) w := by
  unfold part
  simp [ha, hs]
end
theorem str_beq (a b : ByteArray) : (a.toList == b.toList) = decide (a = b) := by
  rw [ByteArray.toList_eq, ByteArray.toList_eq, Bool.eq_iff_iff]
  obtain ⟨⟨x⟩⟩ := a
  obtain ⟨⟨y⟩⟩ := b
  simp
theorem agg_int (w : World) : (isAgg 3).run Try.prog w = .ok false w ∧ (isAgg 2).run Try.prog w = .ok false w ∧ (isAgg 28).run Try.prog w = .ok false w ∧ (isAgg 29).run Try.prog w = .ok false w ∧ (isAgg 9).run Try.prog w = .ok false w := by
  refine ⟨?_, ?_, ?_, ?_, ?_⟩
  · simp [isAgg, run_underlying Try.underlying3]
  · simp [isAgg, run_underlying Try.underlying2]
  · simp [isAgg, run_underlying Try.underlying28]
  · simp [isAgg, run_underlying Try.underlying29]
  · simp [isAgg, run_underlying Try.underlying9]
theorem agg_quota (w : World) : (isAgg 41).run Try.prog w = .ok true w := by
  simp [isAgg, run_underlying Try.underlying41]
theorem size_quota (w : World) : (sizeOf 41).run Try.prog w = .ok 3 w := by
  have h : (Try.prog.info? 41).map (·.size) = some 3 := by kernel_rfl
  obtain ⟨i, hi, hc⟩ := Option.map_eq_some_iff.1 h
  simp [sizeOf, typeInfo, hi, hc]
theorem quota_deep (d : Nat) (a b c x y z : Int) (w : World) : (Op.equalIn (d + 1 + 1) 41 (.agg #[.int .i64 a, .int .i64 b, .int .i64 c]) (.agg #[.int .i64 x, .int .i64 y, .int .i64 z])).run Try.prog w = .ok (a == x && (b == y && (c == z && true))) w := by
  have h2 : Try.prog.stoodInHeld 41 = false := by kernel_rfl
  obtain ⟨_, ki, _, _, _⟩ := agg_int w
  rw [run_equalIn_struct _ _ _ _ _ (by kernel_rfl) h2]
  obtain ⟨fs, hfs⟩ : ∃ fs, (Try.prog.fieldsOf 41).toList = fs := ⟨_, rfl⟩
  rw [hfs]
  simp [Program.fieldsOf, Try.underlying41] at hfs
  subst hfs
  refine eq_field (by decide) (part_one ki rfl) (part_one ki rfl) (run_equalIn_int _ _ _ _ _ _ _ Try.underlying2) ?_
  refine eq_field (by decide) (part_one ki rfl) (part_one ki rfl) (run_equalIn_int _ _ _ _ _ _ _ Try.underlying2) ?_
  exact eq_field (by decide) (part_one ki rfl) (part_one ki rfl) (run_equalIn_int _ _ _ _ _ _ _ Try.underlying2) eq_end
theorem rec_equal (x : Tok) (w : World) : (Op.equal 43 (.agg (rcells x).toArray) (.agg (rcells x).toArray)).run Try.prog w = .ok true w := by
  have h1 : Try.prog.stoodInHeld 43 = false := by kernel_rfl
  obtain ⟨k0, k1, k2, k3, k4⟩ := agg_int w
  unfold Op.equal
  rw [show Op.maxDepth = 9997 + 1 + 1 + 1 from rfl, run_equalIn_struct _ _ _ _ _ (by kernel_rfl) h1]
  obtain ⟨fs, hfs⟩ : ∃ fs, (Try.prog.fieldsOf 43).toList = fs := ⟨_, rfl⟩
  rw [hfs]
  simp [Program.fieldsOf, Try.underlying43] at hfs
  subst hfs
  have key : true = ((5 : Int) == 5 && ((0 : Int) == 0 && (((1 : Int) == 1) && (((0 : Int) == 0 && ((0 : Int) == 0 && ((0 : Int) == 0 && true))) && (((0 : Int) == 0) && (((x.s : Int) == (x.s : Int)) && (x.r == x.r && (((x.k : Int) == (x.k : Int)) && ((ByteArray.toList ⟨#[]⟩ == ByteArray.toList ⟨#[]⟩) && ((ByteArray.toList ⟨#[]⟩ == ByteArray.toList ⟨#[]⟩) && (((0 : Int) == 0) && (((0 : Int) == 0) && true)))))))))))) := by simp
  rw [key]
  refine eq_field (by decide) (part_one k0 rfl) (part_one k0 rfl) (run_equalIn_int _ _ _ _ _ _ _ Try.underlying3) ?_
  refine eq_field (by decide) (part_one k0 rfl) (part_one k0 rfl) (run_equalIn_int _ _ _ _ _ _ _ Try.underlying3) ?_
  refine eq_field (by decide) (part_one k2 rfl) (part_one k2 rfl) (run_equalIn_int _ _ _ _ _ _ _ Try.underlying28) ?_
  refine eq_field (by decide) (part_agg (agg_quota w) (size_quota w)) (part_agg (agg_quota w) (size_quota w)) (quota_deep 9997 _ _ _ _ _ _ w) ?_
  refine eq_field (by decide) (part_one k3 rfl) (part_one k3 rfl) (run_equalIn_int _ _ _ _ _ _ _ Try.underlying29) ?_
  refine eq_field (by decide) (part_one k2 rfl) (part_one k2 rfl) (run_equalIn_int _ _ _ _ _ _ _ Try.underlying28) ?_
  refine eq_field (by decide) (part_one k0 rfl) (part_one k0 rfl) (run_equalIn_int _ _ _ _ _ _ _ Try.underlying3) ?_
  refine eq_field (by decide) (part_one k3 rfl) (part_one k3 rfl) (run_equalIn_int _ _ _ _ _ _ _ Try.underlying29) ?_
  refine eq_field (by decide) (part_one k4 rfl) (part_one k4 rfl) (run_equalIn_string _ _ _ _ _ Try.underlying9) ?_
  refine eq_field (by decide) (part_one k4 rfl) (part_one k4 rfl) (run_equalIn_string _ _ _ _ _ Try.underlying9) ?_
  refine eq_field (by decide) (part_one k3 rfl) (part_one k3 rfl) (run_equalIn_int _ _ _ _ _ _ _ Try.underlying29) ?_
  exact eq_field (by decide) (part_one k3 rfl) (part_one k3 rfl) (run_equalIn_int _ _ _ _ _ _ _ Try.underlying29) eq_end
theorem rec_neq (x : Tok) (w : World) : (binOp .neq 43 (.agg (rcells x).toArray) (.agg (rcells x).toArray)).run Try.prog w = .ok (.bool false) w := by
  have h := rec_equal x w
  unfold rcells at h ⊢
  simp [binOp, h]
/- The cells of one token's record in a row. -/
theorem row_cells {w : World} {base g n cap : Nat} {T : List Tok} (h : w.ownsRow base 43 14 (.slice (some ⟨g, 0, none⟩) n cap) n (rcl T)) {i : Nat} (hi : i < T.length) : ∀ j u, (rcells T[i])[j]? = some u → w.cell? ⟨g, i * 14 + j, none⟩ = some u := by
  intro j u hu
  have hj : j < 14 := by have := (List.getElem?_eq_some_iff.1 hu).1; simpa [rcells] using this
  have hn : T.length = n := by have := h.1; rw [rcl_length] at this; omega
  have h1 := h.cellAt (i * 14 + j) (by omega)
  (try rw [Nat.zero_add] at h1)
  rw [h1, ← hu]
  exact flat_get rcells_length (l := T) (i := i) (j := j) (x := T[i]) (List.getElem?_eq_getElem _) hj
end Go.Proofs.Ytciplhpnbpmfeaa.Rgt

/- Rows of records of a call's own. -/
import Derived.Test.YtkiagflpjloliaaRecRows
import Derived.Test.YtkiagflpjloliaaRecWalk
namespace Go.Proofs.Ytkiagflpjloliaa.Rec
open Go.Proofs.Ytkiagflpjloliaa.Mem Go.Proofs.Ytkiagflpjloliaa.Pack
open Go.ChangeShapes Go.WideShapes Go.ChangeAt Go.RowKit
set_option linter.unusedVariables false
set_option linter.unusedSimpArgs false

theorem rec_info : (Try.prog.info? 27).map (fun i => (i.zero, i.size, i.bytes)) = some (some (.agg #[.int .i64 0, .int .i64 0, .int .u32 0, .int .i64 0, .int .i64 0, .int .i64 0, .int .u64 0, .int .u32 0, .int .i64 0, .int .u64 0, .string ⟨#[]⟩, .string ⟨#[]⟩, .int .u64 0, .int .u64 0]), 14, 128) := by kernel_rfl
def rcl (l : List Rcd) : List Value := l.flatMap fun r => (cells r).toList
theorem rcl_cons (r : Rcd) (l : List Rcd) : rcl (r :: l) = (cells r).toList ++ rcl l := rfl
theorem rcl_length (l : List Rcd) : (rcl l).length = l.length * 14 := by
  induction l with
  | nil => rfl
  | cons r l ih => rw [rcl_cons, List.length_append, ih, List.length_cons]; simp [cells]; omega
theorem rcl_snoc (l : List Rcd) (r : Rcd) : rcl (l ++ [r]) = rcl l ++ (cells r).toList := by
  unfold rcl
  rw [List.flatMap_append]
  simp
theorem rcl_get (l : List Rcd) (i j : Nat) (hi : i < l.length) (hj : j < 14) : (rcl l)[i * 14 + j]? = (cells l[i])[j]? := by
  induction l generalizing i with
  | nil => simp at hi
  | cons r l ih =>
    have hl : (cells r).toList.length = 14 := by simp [cells]
    rw [rcl_cons]
    rcases i with _ | i
    · rw [Nat.zero_mul, Nat.zero_add, List.getElem?_append_left (by omega)]
      simp
    · rw [List.getElem?_append_right (by omega), hl, show (i + 1) * 14 + j - 14 = i * 14 + j by omega, ih i (by simpa using hi)]
      simp
theorem recs_of_own {w : World} {base : Nat} {v : Value} {l : List Rcd} (h : w.ownsRow base 27 14 v l.length (rcl l)) (hi : ∀ r ∈ l, Is r) :
    ∃ a cap, v = .slice a l.length cap ∧ Recs w a l ∧ cap ≤ maxLen := by
  rcases h.2 with ⟨hv, hn⟩ | ⟨g, cap, cur, hv, hg, hh, hnc, hcm, hcs, ht⟩
  · have e := List.eq_nil_of_length_eq_zero hn
    subst e
    exact ⟨none, 0, hv, Recs.nil _ _, Nat.zero_le _⟩
  · refine ⟨_, cap, hv, ⟨hi, fun _ => ⟨g, 0, rfl, (h.lt g (by rw [hv]; rfl)).2, fun i hil j u hu => ?_⟩⟩, hcm⟩
    have hj : j < 14 := (Array.getElem?_eq_some_iff.1 hu).1
    have h1 := rcl_get l i j hil hj
    rw [hu] at h1
    have hsub : World.ownsRow w base 27 14 (.slice (some ⟨g, 0, none⟩) l.length cap) l.length (rcl l) := by rw [← hv]; exact h
    have h2 := hsub.cellAt (i * 14 + j) (by omega)
    rw [Nat.zero_add, h2, h1]
theorem sees_rec (w : World) (cs : Array Value) (hcs : cs.size = 14) (e : TypeId) (fr : Nat × Nat) (g : Nat) (hg : g = w.heap.size) : Sees (w.alloc (.cells cs e fr)) 14 (.slice (some ⟨g, 0, none⟩) 1 1) 1 cs.toList := by
  subst hg
  refine .inr ⟨_, _, rfl, by simp [hcs], fun j x hx => ?_⟩
  refine ⟨by simp, ?_⟩
  rw [add_none, Nat.zero_add, World.cell?_alloc_mark]
  simpa using hx
theorem cells_one (r : Rcd) : ∀ u ∈ (cells r).toList, u.oneCell' = true := by
  simp [cells, Value.oneCell']
theorem txt_size {P : Pos} (h : Bytes P.zs) : P.txt.size ≤ 65535 := by
  have h1 : textLen P.zs < 65536 := num_got2_lt h
  have h2 : (textGot P.zs).length ≤ textLen P.zs := got_length_le _ _
  have h3 : P.txt.size = (textGot P.zs).length := by
    show (strOfNums (textGot P.zs)).data.size = _
    rw [← Array.length_toList, strOfNums_data]
    simp
  omega
theorem is_of {k b g : Nat} {q1 q2 q3 : Int} {s1 s2 : Nat} {ri : Int} {se : Nat} {ke va : ByteArray} {ve ex : Nat} (hk : k < 256) (hb : b < 256) (hg : g < 4294967296) (h1 : s1 < 18446744073709551616) (h2 : s2 < 4294967296) (h3 : 0 ≤ ri ∧ ri < 256)
    (h4 : se < 18446744073709551616) (h5 : ke.size ≤ 65535) (h6 : va.size ≤ 65535) (h7 : ve < 18446744073709551616) (h8 : ex < 18446744073709551616) : Is ⟨(k : Int), (b : Int), g, q1, q2, q3, s1, s2, ri, se, ke, va, ve, ex⟩ := by
  refine ⟨?_, ?_, hg, h1, h2, ?_, h4, ?_, ?_, h7, h8⟩
  · simp only; omega
  · simp only; omega
  · simp only; omega
  · simp only; omega
  · simp only; omega
theorem z64 : (0 : Nat) < 18446744073709551616 := by decide
theorem z32 : (0 : Nat) < 4294967296 := by decide
theorem z8 : (0 : Int) ≤ 0 ∧ (0 : Int) < 256 := by decide
theorem zs : nothing.size ≤ 65535 := by decide
theorem first_is {P : Pos} (hB : Bytes P.zs) : Is (first P) := by
  have h1 := num1_lt hB
  have b1 := skip_bytes hB 1
  have h2 := num1_lt b1
  have b2 := skip_bytes b1 1
  have h3 := num4_lt b2
  have bq := skip_bytes b2 4
  have q8 := skip_bytes bq 8
  have q88 := skip_bytes q8 8
  have q888 := skip_bytes q88 8
  have q8888 := skip_bytes q888 8
  have q4 := skip_bytes bq 4
  have q41 := skip_bytes q4 1
  unfold first
  simp only
  split
  · exact is_of h1 h2 h3 (num8_lt q888) (num4_lt q8888) z8 z64 zs zs z64 z64
  · split
    · exact is_of h1 h2 h3 z64 z32 z8 z64 (txt_size q88) (txt_size (past_bytes q88)) (num8_lt bq) (num8_lt q8)
    · split
      · exact is_of h1 h2 h3 z64 z32 z8 z64 (txt_size q8) zs (num8_lt bq) z64
      · split
        · exact is_of h1 h2 h3 z64 (num4_lt bq) ⟨Int.natCast_nonneg _, Int.ofNat_lt.2 (num1_lt q4)⟩ (num8_lt q41) zs zs z64 z64
        · split
          · exact is_of h1 h2 h3 z64 (num4_lt bq) z8 z64 zs zs z64 z64
          · exact is_of h1 h2 h3 z64 z32 z8 z64 zs zs z64 z64
theorem got_nil (k : Nat) : got [] k = [] := by unfold got; split <;> simp
theorem left_nil (k : Nat) : left [] k = [] := by unfold left; split <;> simp
/- No bytes, no record. -/
theorem good_nil : good ⟨[], false⟩ = false := by
  have hg : (first ⟨[], false⟩).gen = 0 := by
    have e : ((⟨[], false⟩ : Pos).skip 1).skip 1 = ⟨[], true⟩ := rfl
    have e2 : (⟨[], true⟩ : Pos).num 4 = 0 := rfl
    unfold first
    simp only [e, e2]
    split
    · rfl
    · split
      · rfl
      · split
        · rfl
        · split
          · rfl
          · split <;> rfl
  have hm : ¬ May (first ⟨[], false⟩) := fun h => by have := h.2.2.2.2.1; omega
  unfold good
  rw [decide_eq_false hm, Bool.false_and]
end Go.Proofs.Ytkiagflpjloliaa.Rec

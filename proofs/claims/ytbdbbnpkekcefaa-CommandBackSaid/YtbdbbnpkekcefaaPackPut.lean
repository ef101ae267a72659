/- Contracts of pack.Put, pack.PutText and the reference's Put and Text: what they append to a row of the caller's own. -/
import Derived.Test.YtbdbbnpkekcefaaProg
import Derived.Test.YtbdbbnpkekcefaaPackMath
import Derived.WalkKit
import Derived.ProofKit
import Derived.Below
import Derived.Outline
import Derived.WalkSpells
import Derived.WalkLawsBesides
import Derived.LoopTactic
import Derived.Lib.Hide
import Derived.WalkMore
import Derived.ScopeJumps
namespace Go.Proofs.Ytbdbbnpkekcefaa.Pack
open Go.Proofs.Ytbdbbnpkekcefaa.Mem
open Go.ChangeShapes Go.WideShapes Go.ChangeAt Go.RowKit
set_option linter.unusedVariables false

theorem ret_int {k : IntKind} {a b : Int} (h : a = b) : Ending.returned (.int k a) = .returned (.int k b) := by rw [h]
theorem val_int {k : IntKind} {a b : Int} (h : a = b) : Value.int k a = .int k b := by rw [h]
theorem u8_info : (Try.prog.info? 5).map (fun i => (i.zero, i.size, i.bytes)) = some (some (.int .u8 0), 1, 1) := by kernel_rfl

theorem may_yes (k : Int) (h1 : 1 ≤ k) (h8 : k ≤ 8) (w : World) :
    Calls Try.prog 59 #[.int .i64 k] w fun e w' => e = .returned (.bool true) ∧ w = w' := by
  go_enter Try.func59, Try.ntmps59
  go_wp2
  go_ret
  exact ⟨rfl, rfl⟩
theorem may_no (k : Int) (h : k < 1 ∨ 8 < k) (w : World) :
    Calls Try.prog 59 #[.int .i64 k] w fun e w' => e = .returned (.bool false) ∧ w = w' := by
  by_cases h1 : k < 1
  · go_enter Try.func59, Try.ntmps59
    go_wp2
    go_ret
    exact ⟨rfl, rfl⟩
  · have h8 : decide (k ≤ 8) = false := by simp; omega
    go_enter Try.func59, Try.ntmps59
    go_wp2
    go_ret
    exact ⟨rfl, rfl⟩

theorem put_none (v : Value) (n : Int) (k : Int) (h : k < 1 ∨ 8 < k) (w : World) :
    Calls Try.prog 33 #[v, .int .u64 n, .int .i64 k] w fun e w' => e = .returned v ∧ w = w' := by
  go_enter Try.func33, Try.ntmps33
  go_wp2
  go_step3
  go_wp2_with (go_at_call 59; refine (may_no k h _).mono ?_; rintro e w' ⟨rfl, rfl⟩)
  rw [Exit.noGoto_ret]
  go_ret
  exact ⟨rfl, rfl⟩

/- The state of Put at its label: j bytes of m are still to be put. -/
def AtNext (w : World) (v : Value) (base len : Nat) (xs : List Int) (n k : Nat) (a' : Act) (w' : World) : Prop :=
  ∃ (v' : Value) (m j : Nat) (ys : List Int) (u7 u8 u9 u10 u11 u12 u13 u14 u15 u16 u17 u18 u19 u20 u21 u22 : Value), a' = { tmps := #[v', .int .u64 (m : Int), .int .i64 (j : Int), undef, undef, undef, .slice none 0 0, u7, u8, u9, u10, u11, u12, u13, u14, u15, u16, u17, u18, u19, u20, u21, u22], defers := [] } ∧
    w'.ownsRow base 5 1 v' (len + (k - j)) (cellsOf ys) ∧ Onto w w' v v' ∧ ys ++ put m j = xs ++ put n k ∧ 1 ≤ j ∧ j ≤ k ∧ m < 18446744073709551616 ∧ base ≤ w'.heap.size
theorem next_step {ys zs : List Int} {m j : Nat} (h : ys ++ put m (j + 1) = zs) : (ys ++ [((m % 256 : Nat) : Int)]) ++ put (m / 256) j = zs := by
  rw [← h, put, List.append_assoc]; rfl
theorem next_last {ys zs : List Int} {m : Nat} (h : ys ++ put m 1 = zs) : ys ++ [((m % 256 : Nat) : Int)] = zs := by
  have := next_step (j := 0) h
  simpa [put] using this
/- A scope with one label, which the run also comes to from above: what follows the label is walked once. -/
theorem scope_label {P : Program} {a : Act} {w : World} {Q : Exit → Act → World → Prop} {c rest : Code} (l : Nat) (J : Act → World → Prop) (μ : Act → World → Nat) (hf : findLabel c l = some (Code.skip.seq rest))
    (pass : ∀ a w, J a w → rest.wp P (Exit.jump l (fun a' w' => J a' w' ∧ μ a' w' < μ a w) Q) a w)
    (first : (∀ a w, J a w → rest.wp P (Exit.jump l J Q) a w) → c.wp P (Exit.jump l J Q) a w) : (Code.scope c).wp P Q a w := by
  refine wp_scope_jumps l J μ hf (first fun a w hJ => Code.wp_mono ?_ (pass a w hJ)) (fun a w hJ => wp_seq (wp_skip (pass a w hJ)))
  intro e a' w' h
  cases e <;> first | exact h | exact ⟨h.1, h.2.1⟩
set_option maxRecDepth 100000 in
set_option maxHeartbeats 1000000 in
theorem put_any (n : Nat) (hn : n < 18446744073709551616) (k : Nat) (h1 : 1 ≤ k) (h8 : k ≤ 8) (v : Value) (len : Nat) (xs : List Int) (base : Nat) (w : World)
    (hown : w.ownsRow base 5 1 v len (cellsOf xs)) (hb : base ≤ w.heap.size) (hl : len ≤ 1073741824) :
    Calls Try.prog 33 #[v, .int .u64 (n : Int), .int .i64 (k : Int)] w fun e w' => ∃ v', e = .returned v' ∧ w'.ownsRow base 5 1 v' (len + k) (cellsOf (xs ++ put n k)) ∧ Onto w w' v v' := by
  obtain ⟨i0, hi0, hz0, hz1, hz2⟩ := info_parts u8_info
  go_enter Try.func33, Try.ntmps33
  go_wp2
  refine scope_label 0 (AtNext w v base len xs n k) (fun a' _ => (intOf (a'.tmps.getD 2 undef)).toNat) rfl ?_ ?_
  · rintro a' wr ⟨v', m, j, ys, u7, u8, u9, u10, u11, u12, u13, u14, u15, u16, u17, u18, u19, u20, u21, u22, rfl, ho, hon, hys, hj1, hjk, hm, hbr⟩
    have e1 : (ys ++ [((m % 256 : Nat) : Int)]).length = ys.length + 1 := by simp
    have HYS := Lib.hid hys
    clear hys
    by_cases hj : 1 < j
    · go_wp2_with (at_builtin; refine wpList_append_onto rfl (.tmp 11) (.tmp 14) _ rfl base 5 i0 _ 1 1 Try.underlying22 hi0 hz0 hz1 hz2 rfl (by omega) v' (len + (k - j)) (cellsOf ys) rfl (ownsRow_alloc ho _) _ 1 _ rfl (sees_one _ _ _ _) (by simp [Value.oneCell']) (by simp only [maxLen]; omega) (by omega) (by simp; omega) ?_; intro v2 w2 ho2 hon2)
      have e2 : (m : Int) / 256 = ((m / 256 : Nat) : Int) := by omega
      have e3 : (j : Int) - 1 = ((j - 1 : Nat) : Int) := by omega
      rw [e2, e3]
      go_step3
      refine ⟨rfl, ⟨v2, m / 256, j - 1, ys ++ [((m % 256 : Nat) : Int)], _, _, _, _, _, _, _, _, _, _, _, _, _, _, _, _, rfl, ?_, hon.trans (hon2.of_alloc (fun k hk => (ho.lt k hk).2)), ?_, by omega, by omega, by omega, ?_⟩, ?_⟩
      · rw [cellsOf_append]
        have e4 : len + (k - (j - 1)) = len + (k - j) + 1 := by omega
        rw [e4]
        exact ho2
      · exact next_step (j := j - 1) (by rw [show j - 1 + 1 = j by omega]; exact HYS.out)
      · have := hon2.grown.size; simp at this; omega
      · simp [intOf]; omega
    · have hj0 : j = 1 := by omega
      subst hj0
      go_wp2_with (at_builtin; refine wpList_append_onto rfl (.tmp 11) (.tmp 14) _ rfl base 5 i0 _ 1 1 Try.underlying22 hi0 hz0 hz1 hz2 rfl (by omega) v' (len + (k - 1)) (cellsOf ys) rfl (ownsRow_alloc ho _) _ 1 _ rfl (sees_one _ _ _ _) (by simp [Value.oneCell']) (by simp only [maxLen]; omega) (by omega) (by simp; omega) ?_; intro v2 w2 ho2 hon2)
      simp only [Exit.jump]
      go_ret
      refine ⟨v2, rfl, ?_, hon.trans (hon2.of_alloc (fun k hk => (ho.lt k hk).2))⟩
      have e4 : len + k = len + (k - 1) + 1 := by omega
      have e5 := next_last HYS.out
      rw [e4, ← e5, cellsOf_append]
      exact ho2
  · intro hrest
    go_wp2_with (go_at_call 59; refine (may_yes _ (by omega) (by omega) _).mono ?_; rintro e w' ⟨rfl, rfl⟩)
    go_step3
    rename_i hK
    exact hK _ _ (hrest _ _ ⟨v, n, k, xs, _, _, _, _, _, _, _, _, _, _, _, _, _, _, _, _, rfl, by simpa using hown, Onto.refl _ _, rfl, h1, Nat.le_refl _, hn, hb⟩)
end Go.Proofs.Ytbdbbnpkekcefaa.Pack

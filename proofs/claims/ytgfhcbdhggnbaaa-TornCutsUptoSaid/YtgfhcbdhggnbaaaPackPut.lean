/- Contracts of pack.Put, pack.PutText and the reference's Put and Text: what they append to a row of the caller's own. -/
import Derived.Test.YtgfhcbdhggnbaaaProg
import Derived.Test.YtgfhcbdhggnbaaaPackMath
import Derived.WalkKit
import Derived.ProofKit
import Derived.Below
import Derived.Outline
import Derived.WalkSpells
import Derived.WalkLawsBesides
import Derived.LoopTactic
import Derived.Lib.Hide
import Derived.WalkMore
import Derived.ScopeJumps
namespace Go.Proofs.Ytgfhcbdhggnbaaa.Pack
open Go.Proofs.Ytgfhcbdhggnbaaa.Mem
open Go.ChangeShapes Go.WideShapes Go.ChangeAt Go.RowKit
set_option linter.unusedVariables false

theorem ret_int {k : IntKind} {a b : Int} (h : a = b) : Ending.returned (.int k a) = .returned (.int k b) := by rw [h]
theorem val_int {k : IntKind} {a b : Int} (h : a = b) : Value.int k a = .int k b := by rw [h]
theorem u8_info : (Try.prog.info? 5).map (fun i => (i.zero, i.size, i.bytes)) = some (some (.int .u8 0), 1, 1) := by kernel_rfl

theorem may_yes (k : Int) (h1 : 1 ≤ k) (h8 : k ≤ 8) (w : World) :
    Calls Try.prog 42 #[.int .i64 k] w fun e w' => e = .returned (.bool true) ∧ w = w' := by
  go_enter Try.func42, Try.ntmps42
  go_wp2
  go_ret
  exact ⟨rfl, rfl⟩
theorem may_no (k : Int) (h : k < 1 ∨ 8 < k) (w : World) :
    Calls Try.prog 42 #[.int .i64 k] w fun e w' => e = .returned (.bool false) ∧ w = w' := by
  by_cases h1 : k < 1
  · go_enter Try.func42, Try.ntmps42
    go_wp2
    go_ret
    exact ⟨rfl, rfl⟩
  · have h8 : decide (k ≤ 8) = false := by simp; omega
    go_enter Try.func42, Try.ntmps42
    go_wp2
    go_ret
    exact ⟨rfl, rfl⟩

/- The state of Put at its label: j bytes of m are still to be put. -/
def AtNext (w : World) (v : Value) (base len : Nat) (xs : List Int) (n k : Nat) (a' : Act) (w' : World) : Prop :=
  ∃ (v' : Value) (m j : Nat) (ys : List Int) (u7 u8 u9 u10 u11 u12 u13 u14 u15 u16 u17 u18 u19 u20 u21 u22 : Value), a' = { tmps := #[v', .int .u64 (m : Int), .int .i64 (j : Int), undef, undef, undef, .slice none 0 0, u7, u8, u9, u10, u11, u12, u13, u14, u15, u16, u17, u18, u19, u20, u21, u22], defers := [] } ∧
    w'.ownsRow base 5 1 v' (len + (k - j)) (cellsOf ys) ∧ Onto w w' v v' ∧ ys ++ put m j = xs ++ put n k ∧ 1 ≤ j ∧ j ≤ k ∧ m < 18446744073709551616 ∧ base ≤ w'.heap.size
theorem next_step {ys zs : List Int} {m j : Nat} (h : ys ++ put m (j + 1) = zs) : (ys ++ [((m % 256 : Nat) : Int)]) ++ put (m / 256) j = zs := by
  rw [← h, put, List.append_assoc]; rfl
theorem next_last {ys zs : List Int} {m : Nat} (h : ys ++ put m 1 = zs) : ys ++ [((m % 256 : Nat) : Int)] = zs := by
  have := next_step (j := 0) h
  simpa [put] using this
/- A scope with one label, which the run also comes to from above: what follows the label is walked once. -/
theorem scope_label {P : Program} {a : Act} {w : World} {Q : Exit → Act → World → Prop} {c rest : Code} (l : Nat) (J : Act → World → Prop) (μ : Act → World → Nat) (hf : findLabel c l = some (Code.skip.seq rest))
    (pass : ∀ a w, J a w → rest.wp P (Exit.jump l (fun a' w' => J a' w' ∧ μ a' w' < μ a w) Q) a w)
    (first : (∀ a w, J a w → rest.wp P (Exit.jump l J Q) a w) → c.wp P (Exit.jump l J Q) a w) : (Code.scope c).wp P Q a w := by
  refine wp_scope_jumps l J μ hf (first fun a w hJ => Code.wp_mono ?_ (pass a w hJ)) (fun a w hJ => wp_seq (wp_skip (pass a w hJ)))
  intro e a' w' h
  cases e <;> first | exact h | exact ⟨h.1, h.2.1⟩
end Go.Proofs.Ytgfhcbdhggnbaaa.Pack

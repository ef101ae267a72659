/- The bytes of a record: the walks of record.put. -/
import Derived.Test.YtkiagflpjloliaaRecHeap
namespace Go.Proofs.Ytkiagflpjloliaa.Rec
open Go.Proofs.Ytkiagflpjloliaa.Mem Go.Proofs.Ytkiagflpjloliaa.Pack
open Go.ChangeShapes Go.WideShapes Go.ChangeAt Go.RowKit
set_option linter.unusedVariables false

set_option maxRecDepth 100000 in
set_option maxHeartbeats 1000000 in
theorem putQuota_any (q1 q2 q3 : Nat) (h1 : q1 < 18446744073709551616) (h2 : q2 < 18446744073709551616) (h3 : q3 < 18446744073709551616) (v : Value) (len : Nat) (xs : List Int) (base : Nat) (w : World)
    (hown : w.ownsRow base 5 1 v len (cellsOf xs)) (hb : base ≤ w.heap.size) (hl : len ≤ 1000000000) :
    Calls Try.prog 35 #[v, .agg #[.int .i64 (q1 : Int), .int .i64 (q2 : Int), .int .i64 (q3 : Int)]] w fun e w' => ∃ v', e = .returned v' ∧ w'.ownsRow base 5 1 v' (len + 8 + 8 + 8) (cellsOf (xs ++ put q1 8 ++ put q2 8 ++ put q3 8)) ∧ Onto w w' v v' := by
  have i0 : ∀ w : World, (Instr.index 67 (.agg #[.int .i64 (q1 : Int), .int .i64 (q2 : Int), .int .i64 (q3 : Int)]) (.int .i64 0)).run Try.prog w = .ok (.int .i64 (q1 : Int)) w := fun _ => by kernel_rfl
  have i1 : ∀ w : World, (Instr.index 67 (.agg #[.int .i64 (q1 : Int), .int .i64 (q2 : Int), .int .i64 (q3 : Int)]) (.int .i64 1)).run Try.prog w = .ok (.int .i64 (q2 : Int)) w := fun _ => by kernel_rfl
  have i2 : ∀ w : World, (Instr.index 67 (.agg #[.int .i64 (q1 : Int), .int .i64 (q2 : Int), .int .i64 (q3 : Int)]) (.int .i64 2)).run Try.prog w = .ok (.int .i64 (q3 : Int)) w := fun _ => by kernel_rfl
  go_enter Try.func35, Try.ntmps35
  go_wp2
  refine wp_loop_rounds 4 ?_
  rw [rounds_succ]
  go_wp2_with fail
  refine (put_any q1 h1 8 (by omega) (by omega) v len xs base _ (ownsRow_alloc hown _) (by first | omega | (simp; omega)) (by omega)).mono ?_
  rintro e w1 ⟨v1, rfl, ho1, hon1⟩
  have hs1 := hon1.grown.size
  try simp only [World.size_alloc] at hs1
  go_wp2_with fail
  rw [rounds_succ]
  go_wp2_with fail
  refine (put_any q2 h2 8 (by omega) (by omega) v1 (len + 8) (xs ++ put q1 8) base _ ho1 (by first | omega | (simp; omega)) (by omega)).mono ?_
  rintro e w2 ⟨v2, rfl, ho2, hon2⟩
  have hs2 := hon2.grown.size
  try simp only [World.size_alloc] at hs2
  go_wp2_with fail
  rw [rounds_succ]
  go_wp2_with fail
  refine (put_any q3 h3 8 (by omega) (by omega) v2 (len + 8 + 8) (xs ++ put q1 8 ++ put q2 8) base _ ho2 (by first | omega | (simp; omega)) (by omega)).mono ?_
  rintro e w3 ⟨v3, rfl, ho3, hon3⟩
  have hs3 := hon3.grown.size
  try simp only [World.size_alloc] at hs3
  go_wp2_with fail
  rw [rounds_succ]
  go_wp2_with fail
  go_ret
  exact ⟨_, rfl, ho3, ((hon1.of_alloc (fun k hk => (hown.lt k hk).2)).trans hon2).trans hon3⟩
/- What a call that puts a record behind a row answers. -/
def Puts (base : Nat) (w : World) (xs : List Int) (len : Nat) (r : Rcd) (e : Ending) (w' : World) : Prop :=
  ∃ v', e = .returned v' ∧ w'.ownsRow base 5 1 v' (len + (bytesOf r).length) (cellsOf (xs ++ bytesOf r)) ∧ Below base w w'
theorem row_eq {w : World} {base n n' : Nat} {e : TypeId} {v : Value} {xs xs' : List Int} (h : w.ownsRow base e 1 v n (cellsOf xs)) (hn : n = n') (hx : xs = xs') : w.ownsRow base e 1 v n' (cellsOf xs') := by
  subst hn hx; exact h
end Go.Proofs.Ytkiagflpjloliaa.Rec

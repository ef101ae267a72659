/- DiskPlays: the body of the law's loop, taken out of its text; what holds at its head. MADE BY gen-plays.py -/
import Derived.Test.YtiaaadeenbjciaaDiskFit
import Derived.Test.YtiaaadeenbjciaaDiskSame
import Derived.Test.YtiaaadeenbjciaaDiskKept
import Derived.Test.YtiaaadeenbjciaaLate
namespace Go.Proofs.Ytiaaadeenbjciaa.Disk
open Go.Proofs.Ytiaaadeenbjciaa Go.Proofs.Ytiaaadeenbjciaa.Mem
open Go.ChangeShapes Go.WideShapes Go.ChangeAt Go.RowKit
open Go.Proofs (encStr)
set_option linter.unusedVariables false
set_option linter.unusedSimpArgs false

/- The first loop's body. -/
def inLoop : Code → Option Code
  | .loop c => some c
  | .seq a b => (inLoop a).orElse fun _ => inLoop b
  | .block _ c => inLoop c
  | .scope c => inLoop c
  | .cond _ a b => (inLoop a).orElse fun _ => inLoop b
  | _ => none
noncomputable def playsBody : Code := (Try.f3.body.bind inLoop).getD .skip
/- What holds at the head of the law's loop. -/
def PRel (B : Nat) (w0 : World) (p rp n : Nat) (i : Value) (wr : World) : Prop :=
  ∃ k S F G, k ≤ n ∧ i = .int .i64 ((k : Nat) : Int) ∧ TwinAt B wr p rp S S F G ∧ Fit k S ∧ Below B w0 wr ∧ B ≤ wr.heap.size
theorem rat_fresh (cap : Int) (w : World) : RAt (w.alloc (.cells #[.int .i64 cap, .slice none 0 0, .int .i64 0, .bool false, .int .i64 0, .int .i64 0, .bool false] 29)) w.heap.size (fresh cap) (.slice none 0 0) [] false 0 0 :=
  ⟨Blk.new w _ _, World.ownsRow_nil _ _ _ _, (fun x hx => by cases hx), rfl, rfl, List.Pairwise.nil, good_fresh cap⟩
end Go.Proofs.Ytiaaadeenbjciaa.Disk

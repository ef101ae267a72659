/- The bytes that the document puts for a request: what the walk of its Bytes needs. -/
import Derived.Test.YtbdbbnpkekcefaaGCmdREnc
import Derived.Test.YtbdbbnpkekcefaaGCmdPut
import Derived.Test.YtbdbbnpkekcefaaLate
namespace Go.Proofs.Ytbdbbnpkekcefaa.Cmd
open Go.Proofs.Ytbdbbnpkekcefaa.Mem Go.Proofs.Ytbdbbnpkekcefaa.Pack
open Go.ChangeShapes Go.WideShapes Go.ChangeAt Go.RowKit
set_option linter.unusedVariables false
set_option linter.unusedSimpArgs false

def RBytesIs (q : Rq) (w : World) (e : Ending) (w' : World) : Prop := ∃ v, e = .returned v ∧ w'.ownsRow w.heap.size 5 1 v (refBytes q).length (cellsOf (refBytes q)) ∧ Below w.heap.size w w'
section
variable {w0 w w' : World} {base B len : Nat} {t : TypeId} {cs : Array Value} {v : Value} {xs : List Int}
theorem RGo.two (h : RGo w0 base B t cs w v len xs) (t' : TypeId) (cs' : Array Value) : RGo w0 base w.heap.size t' cs' (w.alloc (.cells cs' t')) v len xs :=
  ⟨ownsRow_alloc h.own _, Blk.new _ _ _, by have := h.size; simp; omega, fun e => by have := (h.own.lt _ e).2; omega, (h.alloc (.cells cs' t')).below⟩
theorem RGo.same (h : RGo w0 base B t cs w v len xs) (hb : But (fun _ => False) w w') : RGo w0 base B t cs w' v len xs :=
  ⟨ownsRow_but h.own hb (fun _ _ e => e), h.box.but hb (fun e => e), Nat.le_trans h.size hb.size, h.ne, h.below.trans (hb.new.mono h.size)⟩
end
theorem RGo.app2 {w0 w w2 : World} {base B len n : Nat} {t : TypeId} {cs : Array Value} {v v2 : Value} {xs : List Int} {x y : Int} (ht : t ≠ 5) (h : RGo w0 base B t cs w v len xs) (ho : w2.ownsRow base 5 1 v2 n (cellsOf xs ++ [.int .u8 x, .int .u8 y])) (hon : Onto (w.alloc (.cells #[.int .u8 x, .int .u8 y] 5)) w2 v v2) : RGo w0 base B t cs w2 v2 n (xs ++ [x, y]) :=
  (h.alloc _).step ht (by rw [cellsOf_append]; exact ho) hon
theorem sees_pair (w : World) (u1 u2 : Value) (e : TypeId) (fr : Nat × Nat) (g : Nat) (hg : g = w.heap.size) : Sees (w.alloc (.cells #[u1, u2] e fr)) 1 (.slice (some ⟨g, 0, none⟩) 2 2) 2 [u1, u2] := by
  subst hg
  refine .inr ⟨_, _, rfl, rfl, fun j x hx => ?_⟩
  refine ⟨by simp, ?_⟩
  rw [add_none, Nat.zero_add, World.cell?_alloc_mark]
  simpa using hx
end Go.Proofs.Ytbdbbnpkekcefaa.Cmd

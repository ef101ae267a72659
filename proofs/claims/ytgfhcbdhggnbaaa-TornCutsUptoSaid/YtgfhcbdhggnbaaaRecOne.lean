/- What is read next as the document says, of any kind. -/
import Derived.Test.YtgfhcbdhggnbaaaRecOneA
import Derived.Test.YtgfhcbdhggnbaaaRecOneB
import Derived.Test.YtgfhcbdhggnbaaaRecOneC
namespace Go.Proofs.Ytgfhcbdhggnbaaa.Rec
open Go.Proofs.Ytgfhcbdhggnbaaa.Mem Go.Proofs.Ytgfhcbdhggnbaaa.Pack
open Go.ChangeShapes Go.WideShapes Go.ChangeAt Go.RowKit
set_option linter.unusedVariables false
theorem one_any (q bd : Nat) (P : Pos) (hB : Bytes P.zs) (w : World) (h : RfP q bd w P) (hp : q < w.heap.size) (hD : bd ≤ w.heap.size) : Calls Try.prog 25 #[.pointer (some ⟨q, 0, none⟩)] w fun e w' =>
    e = .returned (.tuple #[rv (first P), .bool (good P)]) ∧ RfP q bd w' (behind P) ∧ But (fun b => b = q) w w' := by
  by_cases h1 : P.num 1 = 1
  · exact one_1 q bd P hB h1 w h hp hD
  by_cases h3 : P.num 1 = 3
  · exact one_3 q bd P hB h3 w h hp hD
  by_cases h4 : P.num 1 = 4
  · exact one_4 q bd P hB h4 w h hp hD
  by_cases h5 : P.num 1 = 5
  · exact one_5 q bd P hB h5 w h hp hD
  by_cases h6 : P.num 1 = 6
  · exact one_6 q bd P hB h6 w h hp hD
  exact one_0 q bd P hB ⟨h1, h3, h4, h5, h6⟩ w h hp hD
end Go.Proofs.Ytgfhcbdhggnbaaa.Rec

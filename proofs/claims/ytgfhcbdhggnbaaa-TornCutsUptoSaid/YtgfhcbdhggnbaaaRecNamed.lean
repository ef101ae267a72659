/- What a record is with just the fields that its kind names: the walks of record.named. -/
import Derived.Test.YtgfhcbdhggnbaaaRecNamedA
import Derived.Test.YtgfhcbdhggnbaaaRecNamedB
namespace Go.Proofs.Ytgfhcbdhggnbaaa.Rec
open Go.Proofs.Ytgfhcbdhggnbaaa.Mem Go.Proofs.Ytgfhcbdhggnbaaa.Pack
open Go.ChangeShapes Go.WideShapes Go.ChangeAt Go.RowKit
set_option linter.unusedVariables false

theorem named_any (r : Rcd) (w : World) : Calls Try.prog 47 #[rv r] w fun e w' => e = .returned (rv (named r)) ∧ Below w.heap.size w w' := by
  by_cases h0 : r.kind < 1 ∨ 7 < r.kind
  · exact named_0 r h0 w
  have h : r.kind = 1 ∨ r.kind = 2 ∨ r.kind = 3 ∨ r.kind = 4 ∨ r.kind = 5 ∨ r.kind = 6 ∨ r.kind = 7 := by omega
  rcases h with h | h | h | h | h | h | h
  · exact named_1 r h w
  · exact named_2 r h w
  · exact named_3 r h w
  · exact named_4 r h w
  · exact named_5 r h w
  · exact named_6 r h w
  · exact named_7 r h w
end Go.Proofs.Ytgfhcbdhggnbaaa.Rec

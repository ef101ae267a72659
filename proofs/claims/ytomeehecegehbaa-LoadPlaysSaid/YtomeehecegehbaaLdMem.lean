/- Ground of the loads' texts. -/
import Derived.Test.YtomeehecegehbaaOwn
import Derived.Test.YtomeehecegehbaaBlk
import Derived.Test.YtomeehecegehbaaLate
import Derived.Test.YtomeehecegehbaaLdFloat
import Derived.Test.YtomeehecegehbaaProg
import Derived.WalkKit
import Derived.ProofKit
import Derived.BigQuiet
import Derived.Lib.Hide
import Derived.Below
import Derived.Outline
import Derived.WalkSpells
import Derived.WalkLawsBesides
import Derived.LoopTactic
import Derived.Deep.CutRange
import Derived.Deep.Slices
import Derived.Deep.Fields
import Derived.Maps.OwnSet
import Derived.Maps.RangeWalk
namespace Go.Proofs.Ytomeehecegehbaa.Ld
open Go.Proofs.Ytomeehecegehbaa.Mem
abbrev enc (x : Int) : Value := .int .i64 x
end Go.Proofs.Ytomeehecegehbaa.Ld

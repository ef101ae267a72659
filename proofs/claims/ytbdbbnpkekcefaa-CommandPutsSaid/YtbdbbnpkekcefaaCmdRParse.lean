/- What the document's Parse answers of any bytes. -/
import Derived.Test.YtbdbbnpkekcefaaCmdRParseA
import Derived.Test.YtbdbbnpkekcefaaCmdRParseB
import Derived.Test.YtbdbbnpkekcefaaCmdRParseC
import Derived.Test.YtbdbbnpkekcefaaCmdRParseD
import Derived.Test.YtbdbbnpkekcefaaCmdRParseE
import Derived.Test.YtbdbbnpkekcefaaCmdRParseF
namespace Go.Proofs.Ytbdbbnpkekcefaa.Cmd
open Go.Proofs.Ytbdbbnpkekcefaa.Mem Go.Proofs.Ytbdbbnpkekcefaa.Pack
open Go.ChangeShapes Go.WideShapes Go.ChangeAt Go.RowKit
set_option linter.unusedVariables false
set_option linter.unusedSimpArgs false

theorem rparse_any (a : Option Addr) (cap : Nat) (zs : List Int) (w : World) (h : Row w a zs.length zs) (hn : a = none → cap = 0) (hlc : zs.length ≤ cap) (hcm : cap ≤ maxLen) (hl : zs.length ≤ 1073741824) :
    Calls Try.prog 8 #[.slice a zs.length cap] w fun e w' => RParseIs zs w e w' := by
  obtain ⟨P, hP⟩ : ∃ P : Pos, P = ⟨zs, false⟩ := ⟨_, rfl⟩
  by_cases k1 : (P.num 1 : Int) = 1
  · exact rparse_c1a a cap zs w h hn hlc hcm hl P hP k1
  by_cases k3 : (P.num 1 : Int) = 3
  · exact rparse_c1b a cap zs w h hn hlc hcm hl P hP k3
  by_cases k2 : (P.num 1 : Int) = 2
  · exact rparse_c2 a cap zs w h hn hlc hcm hl P hP k2
  by_cases k4 : (P.num 1 : Int) = 4
  · exact rparse_c4a a cap zs w h hn hlc hcm hl P hP k4
  by_cases k5 : (P.num 1 : Int) = 5
  · exact rparse_c4b a cap zs w h hn hlc hcm hl P hP k5
  by_cases k6 : (P.num 1 : Int) = 6
  · exact rparse_c6a a cap zs w h hn hlc hcm hl P hP k6
  by_cases k7 : (P.num 1 : Int) = 7
  · exact rparse_c6b a cap zs w h hn hlc hcm hl P hP k7
  by_cases k8 : (P.num 1 : Int) = 8
  · exact rparse_c6c a cap zs w h hn hlc hcm hl P hP k8
  by_cases k9 : (P.num 1 : Int) = 9
  · exact rparse_c9 a cap zs w h hn hlc hcm hl P hP k9
  by_cases k10 : (P.num 1 : Int) = 10
  · exact rparse_c10 a cap zs w h hn hlc hcm hl P hP k10
  by_cases k11 : (P.num 1 : Int) = 11
  · exact rparse_c11 a cap zs w h hn hlc hcm hl P hP k11
  by_cases k12 : (P.num 1 : Int) = 12
  · exact rparse_c12 a cap zs w h hn hlc hcm hl P hP k12
  by_cases k13 : (P.num 1 : Int) = 13
  · exact rparse_c13 a cap zs w h hn hlc hcm hl P hP k13
  exact rparse_c0 a cap zs w h hn hlc hcm hl P hP (by omega)
theorem yields_row {ops : Array Oper} {S : World → Prop} {op : Oper} {a : Act} (hw : Region.wanted op (yielded ops a.tmps) = true) (ty : TypeId) (x : Operand) (ho : op.op = .load ty x) (b : Nat) (hx : a.eval x = .pointer (some ⟨b, 0, none⟩)) (cs : Array Value) (d : TypeDesc) (hd : (match d with | .struct _ | .array _ _ => true | _ => false) = true) (hu : Try.prog.underlying ty = some d) (hi : (Try.prog.info? ty).map (·.size) = some cs.size) (hS : ∀ w, S w → Blk w b ty cs) : YieldsIf Try.prog ops S op (.agg cs) a :=
  .inl ⟨hw, fun w h => by
    unfold execOp
    simp only [ho, hx, Instr.loadAt, Instr.sureAddr, Sem.run_bind, Sem.run_pure, Result.andThen_ok, run_loadVar_row w b ty ty cs (0, 0) d (hS w h) hu (by cases d <;> first | rfl | cases hd) hi]⟩
end Go.Proofs.Ytbdbbnpkekcefaa.Cmd

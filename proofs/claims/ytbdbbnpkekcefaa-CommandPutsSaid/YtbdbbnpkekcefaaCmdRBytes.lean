/- The bytes that the document puts for any request. -/
import Derived.Test.YtbdbbnpkekcefaaGCmdRBA
import Derived.Test.YtbdbbnpkekcefaaGCmdRBC
import Derived.Test.YtbdbbnpkekcefaaGCmdRBE
import Derived.Test.YtbdbbnpkekcefaaCmdRBytesH
import Derived.Test.YtbdbbnpkekcefaaGCmdRBJ
namespace Go.Proofs.Ytbdbbnpkekcefaa.Cmd
open Go.Proofs.Ytbdbbnpkekcefaa.Mem Go.Proofs.Ytbdbbnpkekcefaa.Pack
open Go.ChangeShapes Go.WideShapes Go.ChangeAt Go.RowKit
set_option linter.unusedVariables false
set_option linter.unusedSimpArgs false

theorem rbytes_any (q : Rq) (hi : RqIs q) (ht : 1 ≤ q.tag ∧ q.tag ≤ 13) (haf : q.after.size ≤ 65535) (hsm : Small q.ops) (sv : Value) (W : World) (hops : OpsAt W sv q.ops) : Calls Try.prog 32 #[rv q sv] W fun e w' => RBytesIs q W e w' := by
  obtain ⟨tag, admin, bucket, ⟨qk, qb, qg⟩, ⟨tb, tg, ts, tx⟩, ops, after, first, count, rights, serial⟩ := q
  have ht : 1 ≤ tag ∧ tag ≤ 13 := ht
  by_cases ha : tag = 1
  · exact rbytes_a tag ha admin bucket qk qb qg tb tg ts tx ops after first count rights serial sv W hi.admin hi.tok hi.serial haf hsm hops _ rfl
  by_cases hb : tag = 3
  · exact rbytes_b tag hb admin bucket qk qb qg tb tg ts tx ops after first count rights serial sv W hi.admin hi.tok hi.serial haf hsm hops _ rfl
  by_cases hc : tag = 2
  · exact rbytes_c tag hc admin bucket qk qb qg tb tg ts tx ops after first count rights serial sv W hi.admin hi.tok hi.serial haf hsm hops _ rfl
  by_cases hd : tag = 4 ∨ tag = 5
  · exact rbytes_d tag hd admin bucket qk qb qg tb tg ts tx ops after first count rights serial sv W hi.admin hi.tok hi.serial haf hsm hops _ rfl
  by_cases he : tag = 9
  · exact rbytes_e tag he admin bucket qk qb qg tb tg ts tx ops after first count rights serial sv W hi.admin hi.tok hi.serial haf hsm hops _ rfl
  by_cases hf : tag = 6 ∨ tag = 8 ∨ tag = 11
  · exact rbytes_f tag hf admin bucket qk qb qg tb tg ts tx ops after first count rights serial sv W hi.admin hi.tok hi.serial haf hsm hops _ rfl
  by_cases hg : tag = 7
  · exact rbytes_g tag hg admin bucket qk qb qg tb tg ts tx ops after first count rights serial sv W hi.admin hi.tok hi.serial haf hsm hops _ rfl
  by_cases hh : tag = 10
  · exact rbytes_h tag hh admin bucket qk qb qg tb tg ts tx ops after first count rights serial sv W hi.admin hi.tok hi.serial haf hsm hops _ rfl
  by_cases hj : tag = 12
  · exact rbytes_j tag hj admin bucket qk qb qg tb tg ts tx ops after first count rights serial sv W hi.admin hi.tok hi.serial haf hsm hops _ rfl
  by_cases hk : tag = 13
  · exact rbytes_k tag hk admin bucket qk qb qg tb tg ts tx ops after first count rights serial sv W hi.admin hi.tok hi.serial haf hsm hops _ rfl
  omega
end Go.Proofs.Ytbdbbnpkekcefaa.Cmd

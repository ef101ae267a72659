/- What any bytes are read as; whether two rows of bytes are the same. -/
import Derived.Test.YtbdbbnpkekcefaaGCmdReadA
import Derived.Test.YtbdbbnpkekcefaaCmdReadB
import Derived.Test.YtbdbbnpkekcefaaCmdReadC
namespace Go.Proofs.Ytbdbbnpkekcefaa.Cmd
open Go.Proofs.Ytbdbbnpkekcefaa.Mem Go.Proofs.Ytbdbbnpkekcefaa.Pack
open Go.ChangeShapes Go.WideShapes Go.ChangeAt Go.RowKit
set_option linter.unusedVariables false
set_option linter.unusedSimpArgs false

theorem read_any (a : Option Addr) (cap : Nat) (zs : List Int) (w : World) (h : Row w a zs.length zs) (hn : a = none → cap = 0) (hl : zs.length ≤ 1073741824) :
    Calls Try.prog 20 #[.slice a zs.length cap] w fun e w' => ReadIs ⟨zs, false⟩ w e w' := by
  obtain ⟨P, hP⟩ : ∃ P : Pos, P = ⟨zs, false⟩ := ⟨_, rfl⟩
  rw [← hP]
  by_cases c1 : (P.num 1 : Int) = 1 ∨ (P.num 1 : Int) = 3
  · exact read_c1 a cap zs w h hn hl P hP c1
  by_cases c2 : (P.num 1 : Int) = 2
  · exact read_c2 a cap zs w h hn hl P hP c2
  by_cases c4 : (P.num 1 : Int) = 4 ∨ (P.num 1 : Int) = 5
  · exact read_c4 a cap zs w h hn hl P hP c4
  by_cases c6 : 6 ≤ (P.num 1 : Int) ∧ (P.num 1 : Int) ≤ 9
  · exact read_c6 a cap zs w h hn hl P hP c6
  by_cases c10 : (P.num 1 : Int) = 10
  · exact read_c10 a cap zs w h hn hl P hP c10
  by_cases c11 : (P.num 1 : Int) = 11
  · exact read_c11 a cap zs w h hn hl P hP c11
  by_cases c12 : (P.num 1 : Int) = 12
  · exact read_c12 a cap zs w h hn hl P hP c12
  by_cases c13 : (P.num 1 : Int) = 13
  · exact read_c13 a cap zs w h hn hl P hP c13
  exact read_c0 a cap zs w h hn hl P hP (by omega)
theorem rdOp_is (tag : Int) (d : Bool) {P : Pos} (hB : Bytes P.zs) : OpIs (rdOp tag d P) := by
  have b1 := past_bytes hB
  have h1 := num8_lt b1
  have h2 := num8_lt (past_bytes (skip_bytes b1 8))
  unfold rdOp
  have z8 : (0 : Nat) < 18446744073709551616 := by omega
  obtain ⟨n1, hn1⟩ : ∃ n, n = P.past.num 8 := ⟨_, rfl⟩
  obtain ⟨n2, hn2⟩ : ∃ n, n = ((P.past.skip 8).past).num 8 := ⟨_, rfl⟩
  rw [← hn1] at h1 ⊢
  rw [← hn2] at h2 ⊢
  split
  · exact ⟨z8, z8⟩
  · split
    · exact ⟨h1, z8⟩
    · exact ⟨h1, h2⟩
theorem ops9_is (n : Nat) {P : Pos} (hB : Bytes P.zs) : ∀ o ∈ ops9 n P, OpIs o := by
  induction n generalizing P with
  | zero => intro o h; cases h
  | succ n ih =>
    intro o h
    rcases List.mem_cons.1 h with rfl | h
    · exact rdOp_is _ _ (skip_bytes hB 1)
    · exact ih (end9_bytes hB) o h
theorem zeroQuo_is : QuoIs zeroQuo := ⟨by unfold I64 zeroQuo; simp, by unfold I64 zeroQuo; simp, by unfold I64 zeroQuo; simp⟩
theorem zeroTok_is : TokIs zeroTok := ⟨by unfold zeroTok; simp, by unfold zeroTok; simp, by unfold zeroTok; simp, by unfold zeroTok; simp⟩
theorem i64_byte {n : Nat} (h : n < 256) : I64 (n : Int) := by unfold I64; omega
theorem i64_zero : I64 0 := by unfold I64; omega
theorem rdBody_is {t : Nat} (ht : t < 256) {Q : Pos} (hB : Bytes Q.zs) : RqIs (rdBody (t : Int) Q) := by
  have bT := endTok_bytes hB
  have hT := (rdTok_is hB).so
  have b1 := skip_bytes hB 8
  have n8 := num8_lt hB
  have t64 : I64 (t : Int) := i64_byte ht
  have z8 : (0 : Nat) < 18446744073709551616 := by omega
  have z4 : (0 : Nat) < 4294967296 := by omega
  have hno : ∀ o ∈ ([] : List Op), OpIs o := fun o h => by cases h
  rcases classes (t := (t : Int)) with c | c | c | c | c | c | c | c | c | c
  · rw [rdBody_c1 c]; exact ⟨t64, n8, i64_byte (num1_lt b1), rdQuo_is _, zeroTok_is.so, hno, i64_zero, i64_zero, z4⟩
  · rw [rdBody_c2 c]; exact ⟨t64, n8, i64_byte (num1_lt b1), zeroQuo_is, zeroTok_is.so, hno, i64_zero, i64_zero, z4⟩
  · rw [rdBody_c4 c]; exact ⟨t64, n8, i64_zero, zeroQuo_is, zeroTok_is.so, hno, i64_zero, i64_zero, z4⟩
  · rw [rdBody_c9 c]; exact ⟨t64, z8, i64_zero, zeroQuo_is, hT, ops9_is _ (skip_bytes bT 1), i64_zero, i64_zero, z4⟩
  · rw [rdBody_c6 c]; exact ⟨t64, z8, i64_zero, zeroQuo_is, hT, fun o h => by rw [List.mem_singleton.1 h]; exact rdOp_is _ _ bT, i64_zero, i64_zero, z4⟩
  · rw [rdBody_c10 c]; exact ⟨t64, z8, i64_zero, zeroQuo_is, hT, hno, i64_byte (num1_lt (skip_bytes (past_bytes bT) 1)), i64_zero, z4⟩
  · rw [rdBody_c11 c]; exact ⟨t64, z8, i64_zero, zeroQuo_is, hT, hno, i64_zero, i64_zero, z4⟩
  · rw [rdBody_c12 c]; exact ⟨t64, z8, i64_zero, zeroQuo_is, hT, hno, i64_zero, i64_byte (num1_lt bT), z4⟩
  · rw [rdBody_c13 c]; exact ⟨t64, z8, i64_zero, zeroQuo_is, hT, hno, i64_zero, i64_zero, num4_lt bT⟩
  · rw [rdBody_c0 c]; exact ⟨t64, z8, i64_zero, zeroQuo_is, zeroTok_is.so, hno, i64_zero, i64_zero, z4⟩
theorem readRq_is {P : Pos} (hB : Bytes P.zs) : RqIs (readRq P) := rdBody_is (num1_lt hB) (skip_bytes hB 1)
theorem strOf_inj {xs ys : List Int} (hx : Bytes xs) (hy : Bytes ys) : (strOfNums xs = strOfNums ys) ↔ xs = ys :=
  ⟨fun e => by rw [← strBytes_strOf hx, ← strBytes_strOf hy, e], fun e => by rw [e]⟩
theorem str_beq (a b : ByteArray) : (a.toList == b.toList) = decide (a = b) := by
  rw [ByteArray.toList_eq, ByteArray.toList_eq, Bool.eq_iff_iff]
  obtain ⟨⟨x⟩⟩ := a
  obtain ⟨⟨y⟩⟩ := b
  simp
theorem equal_any (a b : Option Addr) (n m c d : Nat) (xs ys : List Int) (w : World) (hx : Row w a n xs) (hy : Row w b m ys) :
    Calls Try.prog 22 #[.slice a n c, .slice b m d] w fun e w' => e = .returned (.bool (decide (xs = ys))) ∧ w = w' := by
  have hs1 := fun dst hd => run_string_row (P := Try.prog) hx 22 5 dst Try.underlying22 Try.underlying5 hd c
  have hs2 := fun dst hd => run_string_row (P := Try.prog) hy 22 5 dst Try.underlying22 Try.underlying5 hd d
  have he : ((strOfNums xs).toList == (strOfNums ys).toList) = decide (xs = ys) := by
    rw [str_beq, decide_eq_decide]
    exact strOf_inj hx.2.1 hy.2.1
  obtain ⟨X, hX⟩ : ∃ X, X = strOfNums xs := ⟨_, rfl⟩
  obtain ⟨Y, hY⟩ : ∃ Y, Y = strOfNums ys := ⟨_, rfl⟩
  rw [← hX] at hs1 he
  rw [← hY] at hs2 he
  rw [← he]
  clear he hX hY hx hy
  go_enter Try.func22, Try.ntmps22
  go_wp2
  go_ret
  exact ⟨rfl, rfl⟩
end Go.Proofs.Ytbdbbnpkekcefaa.Cmd

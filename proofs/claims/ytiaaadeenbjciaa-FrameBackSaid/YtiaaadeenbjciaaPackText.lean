/- Contracts of pack.PutText and of the reference's Put and Text: what they append to a row of the caller's own. -/
import Derived.Test.YtiaaadeenbjciaaPackPut
namespace Go.Proofs.Ytiaaadeenbjciaa.Pack
open Go.Proofs.Ytiaaadeenbjciaa.Mem
open Go.ChangeShapes Go.WideShapes Go.ChangeAt Go.RowKit
set_option linter.unusedVariables false

set_option maxRecDepth 100000 in
set_option maxHeartbeats 1000000 in
theorem refPut_any (n : Nat) (hn : n < 18446744073709551616) (k : Nat) (h8 : k ≤ 8) (v : Value) (len : Nat) (xs : List Int) (base : Nat) (w : World)
    (hown : w.ownsRow base 5 1 v len (cellsOf xs)) (hb : base ≤ w.heap.size) (hl : len ≤ 1073741824) :
    Calls Try.prog 44 #[v, .int .u64 (n : Int), .int .i64 (k : Int)] w fun e w' => ∃ v', e = .returned v' ∧ w'.ownsRow base 5 1 v' (len + k) (cellsOf (xs ++ put n k)) ∧ Onto w w' v v' := by
  obtain ⟨i0, hi0, hz0, hz1, hz2⟩ := info_parts u8_info
  go_enter Try.func44, Try.ntmps44
  go_wp2
  go_loopw [0, 1, 7] (fun v' m' i wr => ∃ (m j : Nat) (ys : List Int), j ≤ k ∧ i = .int .i64 (j : Int) ∧ m' = .int .u64 (m : Int) ∧ wr.ownsRow base 5 1 v' (len + j) (cellsOf ys) ∧ Onto w wr v v' ∧ ys ++ put m (k - j) = xs ++ put n k ∧ m < 18446744073709551616 ∧ base ≤ wr.heap.size) (fun _ _ i _ => k - (intOf i).toNat)
  case atStart => exact ⟨n, 0, xs, by omega, rfl, rfl, hown, Onto.refl _ _, rfl, hn, hb⟩
  case round =>
    obtain ⟨m, j, ys, hj, rfl, rfl, ho, hon, hys, hm, hbr⟩ := hrel
    have HYS := Lib.hid hys
    clear hys
    by_cases hlt : j < k
    · go_wp2_with (at_builtin; refine wpList_append_onto rfl (.tmp 17) (.tmp 21) _ rfl base 5 i0 _ 1 1 Try.underlying30 hi0 hz0 hz1 hz2 rfl (by omega) u0 (len + j) (cellsOf ys) rfl (ownsRow_alloc ho _) _ 1 _ rfl (sees_one _ _ _ _) (by simp [Value.oneCell']) (by simp only [maxLen]; omega) (by omega) (by simp; omega) ?_; intro v2 w2 ho2 hon2)
      have e2 : (m : Int) / 256 = ((m / 256 : Nat) : Int) := by omega
      rw [e2]
      go_roundw
      case rel =>
        refine ⟨m / 256, j + 1, ys ++ [((m % 256 : Nat) : Int)], by omega, by go_num, rfl, ?_, hon.trans (hon2.of_alloc (fun k hk => (ho.lt k hk).2)), ?_, by omega, ?_⟩
        · rw [cellsOf_append]; exact ho2
        · exact next_step (j := k - (j + 1)) (by rw [show k - (j + 1) + 1 = k - j by omega]; exact HYS.out)
        · have := hon2.grown.size; simp at this; omega
      case measure => simp [intOf]; omega
    · have hjk : j = k := by omega
      subst hjk
      go_wp2
      go_ret
      refine ⟨_, rfl, ?_, hon⟩
      have e5 := HYS.out
      rw [Nat.sub_self, put, List.append_nil] at e5
      rw [← e5]
      exact ho
/- The first 65535 bytes of a string. -/
def cut (s : ByteArray) : ByteArray := if 65535 < s.size then s.extract 0 65535 else s
theorem strBytes_take (T : ByteArray) (j : Nat) (h : j < T.size) : (strBytes T).take (j + 1) = (strBytes T).take j ++ [((T[j]).toNat : Int)] := by
  have hl : j < (strBytes T).length := by rw [strBytes_length]; exact h
  rw [List.take_succ_eq_append_getElem hl]
  have e : (strBytes T)[j]'hl = ((T[j]).toNat : Int) := (List.getElem_map (f := fun b : UInt8 => (b.toNat : Int)) (l := T.data.toList) (i := j) (h := hl)).trans rfl
  rw [e]
theorem strBytes_all (T : ByteArray) {j : Nat} (h : ¬ j < T.size) : (strBytes T).take j = strBytes T := List.take_of_length_le (by rw [strBytes_length]; omega)
/- The state of PutText at its label: j bytes of the text are put. -/
def AtText (w : World) (v : Value) (base len : Nat) (xs : List Int) (T : ByteArray) (a' : Act) (w' : World) : Prop :=
  ∃ (v' : Value) (j : Nat) (u6 u7 u8 u9 u10 u11 u12 u13 u14 u15 u16 u17 u18 u19 u20 u21 u22 u23 u24 u25 u26 u27 u28 : Value), a' = { tmps := #[v', .string T, undef, undef, .slice none 0 0, .int .i64 (j : Int), u6, u7, u8, u9, u10, u11, u12, u13, u14, u15, u16, u17, u18, u19, u20, u21, u22, u23, u24, u25, u26, u27, u28], defers := [] } ∧ j ≤ T.size ∧
    w'.ownsRow base 5 1 v' (len + 2 + j) (cellsOf (xs ++ put T.size 2 ++ (strBytes T).take j)) ∧ Onto w w' v v' ∧ base ≤ w'.heap.size
end Go.Proofs.Ytiaaadeenbjciaa.Pack

/- Contracts of pack.PutText and of the reference's Put and Text: what they append to a row of the caller's own. -/
import Derived.Test.YtbdbbnpkekcefaaPackPut
namespace Go.Proofs.Ytbdbbnpkekcefaa.Pack
open Go.Proofs.Ytbdbbnpkekcefaa.Mem
open Go.ChangeShapes Go.WideShapes Go.ChangeAt Go.RowKit
set_option linter.unusedVariables false

set_option maxRecDepth 100000 in
set_option maxHeartbeats 1000000 in
theorem refPut_any (n : Nat) (hn : n < 18446744073709551616) (k : Nat) (h8 : k ≤ 8) (v : Value) (len : Nat) (xs : List Int) (base : Nat) (w : World)
    (hown : w.ownsRow base 5 1 v len (cellsOf xs)) (hb : base ≤ w.heap.size) (hl : len ≤ 1073741824) :
    Calls Try.prog 36 #[v, .int .u64 (n : Int), .int .i64 (k : Int)] w fun e w' => ∃ v', e = .returned v' ∧ w'.ownsRow base 5 1 v' (len + k) (cellsOf (xs ++ put n k)) ∧ Onto w w' v v' := by
  obtain ⟨i0, hi0, hz0, hz1, hz2⟩ := info_parts u8_info
  go_enter Try.func36, Try.ntmps36
  go_wp2
  go_loopw [0, 1, 7] (fun v' m' i wr => ∃ (m j : Nat) (ys : List Int), j ≤ k ∧ i = .int .i64 (j : Int) ∧ m' = .int .u64 (m : Int) ∧ wr.ownsRow base 5 1 v' (len + j) (cellsOf ys) ∧ Onto w wr v v' ∧ ys ++ put m (k - j) = xs ++ put n k ∧ m < 18446744073709551616 ∧ base ≤ wr.heap.size) (fun _ _ i _ => k - (intOf i).toNat)
  case atStart => exact ⟨n, 0, xs, by omega, rfl, rfl, hown, Onto.refl _ _, rfl, hn, hb⟩
  case round =>
    obtain ⟨m, j, ys, hj, rfl, rfl, ho, hon, hys, hm, hbr⟩ := hrel
    have HYS := Lib.hid hys
    clear hys
    by_cases hlt : j < k
    · go_wp2_with (at_builtin; refine wpList_append_onto rfl (.tmp 17) (.tmp 21) _ rfl base 5 i0 _ 1 1 Try.underlying22 hi0 hz0 hz1 hz2 rfl (by omega) u0 (len + j) (cellsOf ys) rfl (ownsRow_alloc ho _) _ 1 _ rfl (sees_one _ _ _ _) (by simp [Value.oneCell']) (by simp only [maxLen]; omega) (by omega) (by simp; omega) ?_; intro v2 w2 ho2 hon2)
      have e2 : (m : Int) / 256 = ((m / 256 : Nat) : Int) := by omega
      rw [e2]
      go_roundw
      case rel =>
        refine ⟨m / 256, j + 1, ys ++ [((m % 256 : Nat) : Int)], by omega, by go_num, rfl, ?_, hon.trans (hon2.of_alloc (fun k hk => (ho.lt k hk).2)), ?_, by omega, ?_⟩
        · rw [cellsOf_append]; exact ho2
        · exact next_step (j := k - (j + 1)) (by rw [show k - (j + 1) + 1 = k - j by omega]; exact HYS.out)
        · have := hon2.grown.size; simp at this; omega
      case measure => simp [intOf]; omega
    · have hjk : j = k := by omega
      subst hjk
      go_wp2
      go_ret
      refine ⟨_, rfl, ?_, hon⟩
      have e5 := HYS.out
      rw [Nat.sub_self, put, List.append_nil] at e5
      rw [← e5]
      exact ho
/- The first 65535 bytes of a string. -/
def cut (s : ByteArray) : ByteArray := if 65535 < s.size then s.extract 0 65535 else s
theorem strBytes_take (T : ByteArray) (j : Nat) (h : j < T.size) : (strBytes T).take (j + 1) = (strBytes T).take j ++ [((T[j]).toNat : Int)] := by
  have hl : j < (strBytes T).length := by rw [strBytes_length]; exact h
  rw [List.take_succ_eq_append_getElem hl]
  have e : (strBytes T)[j]'hl = ((T[j]).toNat : Int) := (List.getElem_map (f := fun b : UInt8 => (b.toNat : Int)) (l := T.data.toList) (i := j) (h := hl)).trans rfl
  rw [e]
theorem strBytes_all (T : ByteArray) {j : Nat} (h : ¬ j < T.size) : (strBytes T).take j = strBytes T := List.take_of_length_le (by rw [strBytes_length]; omega)
/- The state of PutText at its label: j bytes of the text are put. -/
def AtText (w : World) (v : Value) (base len : Nat) (xs : List Int) (T : ByteArray) (a' : Act) (w' : World) : Prop :=
  ∃ (v' : Value) (j : Nat) (u6 u7 u8 u9 u10 u11 u12 u13 u14 u15 u16 u17 u18 u19 u20 u21 u22 u23 u24 u25 u26 u27 u28 : Value), a' = { tmps := #[v', .string T, undef, undef, .slice none 0 0, .int .i64 (j : Int), u6, u7, u8, u9, u10, u11, u12, u13, u14, u15, u16, u17, u18, u19, u20, u21, u22, u23, u24, u25, u26, u27, u28], defers := [] } ∧ j ≤ T.size ∧
    w'.ownsRow base 5 1 v' (len + 2 + j) (cellsOf (xs ++ put T.size 2 ++ (strBytes T).take j)) ∧ Onto w w' v v' ∧ base ≤ w'.heap.size
set_option maxRecDepth 100000 in
set_option maxHeartbeats 1000000 in
theorem putText_any (s T : ByteArray) (hT : T = cut s) (v : Value) (len : Nat) (xs : List Int) (base : Nat) (w : World)
    (hown : w.ownsRow base 5 1 v len (cellsOf xs)) (hb : base ≤ w.heap.size) (hl : len ≤ 1073741824) (hs : s.size ≤ 140737488355328) :
    Calls Try.prog 54 #[v, .string s] w fun e w' => ∃ v', e = .returned v' ∧ w'.ownsRow base 5 1 v' (len + 2 + T.size) (cellsOf (xs ++ put T.size 2 ++ strBytes T)) ∧ Onto w w' v v' := by
  obtain ⟨i0, hi0, hz0, hz1, hz2⟩ := info_parts u8_info
  have HT := Lib.hid hT
  have hTs : T.size ≤ 65535 := by
    rw [hT, cut]
    split
    · rw [ByteArray.size_extract]; omega
    · omega
  clear hT
  go_enter Try.func54, Try.ntmps54
  go_wp2
  refine scope_label 0 (AtText w v base len xs T) (fun a' _ => T.size - (intOf (a'.tmps.getD 5 undef)).toNat) rfl ?_ ?_
  · rintro a' wr ⟨v', j, u6, u7, u8, u9, u10, u11, u12, u13, u14, u15, u16, u17, u18, u19, u20, u21, u22, u23, u24, u25, u26, u27, u28, rfl, hj, ho, hon, hbr⟩
    by_cases hlt : j < T.size
    · go_wp2_with (at_builtin; refine wpList_append_onto rfl (.tmp 20) (.tmp 24) _ rfl base 5 i0 _ 1 1 Try.underlying22 hi0 hz0 hz1 hz2 rfl (by omega) v' (len + 2 + j) (cellsOf (xs ++ put T.size 2 ++ (strBytes T).take j)) rfl (ownsRow_alloc ho _) _ 1 _ rfl (sees_one _ _ _ _) (by simp [Value.oneCell']) (by simp only [maxLen]; omega) (by omega) (by simp; omega) ?_; intro v2 w2 ho2 hon2)
      have e3 : (j : Int) + 1 = ((j + 1 : Nat) : Int) := by omega
      rw [e3]
      go_step3
      refine ⟨rfl, ⟨v2, j + 1, _, _, _, _, _, _, _, _, _, _, _, _, _, _, _, _, _, _, _, _, _, _, _, rfl, by omega, ?_, hon.trans (hon2.of_alloc (fun k hk => (ho.lt k hk).2)), ?_⟩, ?_⟩
      · rw [strBytes_take T j hlt, ← List.append_assoc, cellsOf_append (xs ++ put T.size 2 ++ (strBytes T).take j)]
        exact ho2
      · have := hon2.grown.size; simp at this; omega
      · simp [intOf]; omega
    · have hj0 : j = T.size := by omega
      rw [strBytes_all T hlt] at ho
      subst hj0
      go_wp2
      simp only [Exit.jump]
      go_ret
      exact ⟨_, rfl, ho, hon⟩
  · intro hrest
    have HR := Lib.hid hrest
    clear hrest
    by_cases h : 65535 < s.size
    · have hTe : T = s.extract 0 65535 := by rw [HT.out, cut, if_pos h]
      have hsz : T.size = min 65535 s.size := by rw [hTe, ByteArray.size_extract]; omega
      have HSZ := Lib.hid hsz
      have HTE := Lib.hid hTe
      clear hsz hTe
      go_wp2_with (go_at_call 33; refine (put_any (min 65535 s.size) (by omega) 2 (by omega) (by omega) v len xs base w hown hb hl).mono ?_; rintro e w1 ⟨v1, rfl, ho1, hon1⟩)
      go_step3
      rename_i hK
      refine hK _ _ (HR.out _ _ ?_)
      rw [← HTE.out]
      refine ⟨v1, 0, _, _, _, _, _, _, _, _, _, _, _, _, _, _, _, _, _, _, _, _, _, _, _, rfl, by omega, ?_, hon1, ?_⟩
      · rw [← HSZ.out] at ho1
        simpa using ho1
      · have := hon1.grown.size; omega
    · have hTe : T = s := by rw [HT.out, cut, if_neg h]
      subst hTe
      go_wp2_with (go_at_call 33; refine (put_any T.size (by omega) 2 (by omega) (by omega) v len xs base w hown hb hl).mono ?_; rintro e w1 ⟨v1, rfl, ho1, hon1⟩)
      go_step3
      rename_i hK
      refine hK _ _ (HR.out _ _ ?_)
      refine ⟨v1, 0, _, _, _, _, _, _, _, _, _, _, _, _, _, _, _, _, _, _, _, _, _, _, _, rfl, by omega, ?_, hon1, ?_⟩
      · simpa using ho1
      · have := hon1.grown.size; omega

theorem grown_onto {w w1 w2 : World} {v v1 : Value} (h : Onto w w1 v v1) (k : w1.grownBy w2 v1.ownBlock) : w.grownBy w2 v.ownBlock := by
  have hs := h.grown.size
  refine ⟨k.os.trans h.grown.os, k.tape.trans h.grown.tape, k.output.trans h.grown.output, Nat.le_trans hs k.size, fun i hi hne => ?_⟩
  refine (k.block i (by omega) (fun e => ?_)).trans (h.grown.block i hi hne)
  rcases h.own with h1 | h1
  · exact hne (e.trans h1)
  · have := h1 i e.symm; omega
set_option maxRecDepth 100000 in
set_option maxHeartbeats 1000000 in
theorem refText_grown (s T : ByteArray) (hT : T = cut s) (v : Value) (len : Nat) (xs : List Int) (base : Nat) (w : World)
    (hown : w.ownsRow base 5 1 v len (cellsOf xs)) (hb : base ≤ w.heap.size) (hl : len ≤ 1073741824) (hs : s.size ≤ 140737488355328) :
    Calls Try.prog 37 #[v, .string s] w fun e w' => ∃ v', e = .returned v' ∧ w'.ownsRow base 5 1 v' (len + 2 + T.size) (cellsOf (xs ++ put T.size 2 ++ strBytes T)) ∧ w.grownBy w' v.ownBlock := by
  obtain ⟨i0, hi0, hz0, hz1, hz2⟩ := info_parts u8_info
  have HT := Lib.hid hT
  have hTs : T.size ≤ 65535 := by
    rw [hT, cut]
    split
    · rw [ByteArray.size_extract]; omega
    · omega
  clear hT
  by_cases h : 65535 < s.size
  · have hTe : T = s.extract 0 65535 := by rw [HT.out, cut, if_pos h]
    have hsz : T.size = min 65535 s.size := by rw [hTe, ByteArray.size_extract]; omega
    have HSZ := Lib.hid hsz
    have HTE := Lib.hid hTe
    clear hsz hTe
    go_enter Try.func37, Try.ntmps37
    go_wp2_with (first
      | (go_at_call 36; refine (refPut_any (min 65535 s.size) (by omega) 2 (by omega) v len xs base w hown hb hl).mono ?_; rintro e w1 ⟨v1, rfl, ho1, hon1⟩)
      | (at_builtin; refine wpList_append_str_grown rfl (.tmp 14) (.tmp 15) _ _ rfl base 5 i0 Try.underlying22 Try.underlying9 hi0 hz0 hz1 hz2 v1 (len + 2) _ rfl ho1 (s.extract 0 65535) rfl (by rw [← HTE.out]; simp only [maxLen]; omega) (by rw [← HTE.out]; omega) (by have := hon1.grown.size; omega) ?_; intro v2 w2 ho2 hb2))
    go_ret
    refine ⟨_, rfl, ?_, grown_onto hon1 hb2⟩
    rw [← HTE.out, ← HSZ.out, ← cellsOf_append] at ho2
    exact ho2
  · have hTe : T = s := by rw [HT.out, cut, if_neg h]
    subst hTe
    go_enter Try.func37, Try.ntmps37
    go_wp2_with (first
      | (go_at_call 36; refine (refPut_any T.size (by omega) 2 (by omega) v len xs base w hown hb hl).mono ?_; rintro e w1 ⟨v1, rfl, ho1, hon1⟩)
      | (at_builtin; refine wpList_append_str_grown rfl (.tmp 14) (.tmp 15) _ _ rfl base 5 i0 Try.underlying22 Try.underlying9 hi0 hz0 hz1 hz2 v1 (len + 2) _ rfl ho1 T rfl (by simp only [maxLen]; omega) (by omega) (by have := hon1.grown.size; omega) ?_; intro v2 w2 ho2 hb2))
    go_ret
    refine ⟨_, rfl, ?_, grown_onto hon1 hb2⟩
    rw [← cellsOf_append] at ho2
    exact ho2
theorem refText_any (s T : ByteArray) (hT : T = cut s) (v : Value) (len : Nat) (xs : List Int) (base : Nat) (w : World)
    (hown : w.ownsRow base 5 1 v len (cellsOf xs)) (hb : base ≤ w.heap.size) (hl : len ≤ 1073741824) (hs : s.size ≤ 140737488355328) :
    Calls Try.prog 37 #[v, .string s] w fun e w' => ∃ v', e = .returned v' ∧ w'.ownsRow base 5 1 v' (len + 2 + T.size) (cellsOf (xs ++ put T.size 2 ++ strBytes T)) ∧ Below base w w' := by
  refine (refText_grown s T hT v len xs base w hown hb hl hs).mono ?_
  rintro e w' ⟨v', rfl, h1, h2⟩
  exact ⟨v', rfl, h1, (Below.refl base w).grown h2 hb (fun k hk => (hown.lt k hk).1)⟩
end Go.Proofs.Ytbdbbnpkekcefaa.Pack

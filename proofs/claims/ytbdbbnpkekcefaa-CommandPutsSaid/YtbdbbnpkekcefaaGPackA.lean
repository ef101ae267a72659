/- In one text: Numbers as bytes, the lowest byte first: what is put, what is read, and that what was put is read. Contracts of pack.Put, pack.PutText and the reference's Put and Text: what they append to a row of the caller's own. Contracts of pack.PutText and of the reference's Put and Text: what they append to a row of the caller's own. -/
import Derived.Test.YtbdbbnpkekcefaaOwn
import Derived.Test.YtbdbbnpkekcefaaProg
import Derived.WalkKit
import Derived.ProofKit
import Derived.Below
import Derived.Outline
import Derived.WalkSpells
import Derived.WalkLawsBesides
import Derived.LoopTactic
import Derived.Lib.Hide
import Derived.WalkMore
import Derived.ScopeJumps
namespace Go.Proofs.Ytbdbbnpkekcefaa.Pack
open Go.Proofs.Ytbdbbnpkekcefaa.Mem
set_option linter.unusedVariables false

def put (n : Nat) : Nat → List Int
  | 0 => []
  | k + 1 => ((n % 256 : Nat) : Int) :: put (n / 256) k
def num : List Int → Nat
  | [] => 0
  | z :: zs => z.toNat + 256 * num zs
theorem put_length (n k : Nat) : (put n k).length = k := by
  induction k generalizing n with
  | zero => rfl
  | succ k ih => simp [put, ih]
theorem put_bytes (n k : Nat) : Bytes (put n k) := by
  induction k generalizing n with
  | zero => exact bytes_nil
  | succ k ih =>
    intro z hz
    rcases List.mem_cons.mp hz with rfl | h
    · omega
    · exact ih _ z h
theorem num_put (n k : Nat) : num (put n k) = n % 256 ^ k := by
  induction k generalizing n with
  | zero => simp [put, num, Nat.mod_one]
  | succ k ih =>
    simp only [put, num, ih]
    rw [Nat.pow_succ, Nat.mul_comm (256 ^ k) 256, Nat.mod_mul]
    omega
theorem num_append (xs ys : List Int) : num (xs ++ ys) = num xs + 256 ^ xs.length * num ys := by
  induction xs with
  | nil => simp [num]
  | cons x xs ih => rw [List.cons_append, num, num, ih, List.length_cons, Nat.pow_succ, Nat.mul_comm (256 ^ xs.length) 256, Nat.mul_assoc, Nat.mul_add]; omega
theorem num_lt {zs : List Int} (h : Bytes zs) : num zs < 256 ^ zs.length := by
  induction zs with
  | nil => simp [num]
  | cons z zs ih =>
    have h1 := h z (List.mem_cons_self ..)
    have h2 := ih (fun x hx => h x (List.mem_cons_of_mem _ hx))
    rw [num, List.length_cons, Nat.pow_succ]
    omega
theorem num_snoc (zs : List Int) (k : Nat) (h : k < zs.length) : num (zs.take (k + 1)) = num (zs.take k) + 256 ^ k * (zs.getD k 0).toNat := by
  rw [take_snoc zs k h, num_append]
  simp [num, List.length_take, Nat.min_eq_left (Nat.le_of_lt h)]
theorem num_cons (zs : List Int) (k : Nat) (h : k < zs.length) : num (zs.drop k) = (zs.getD k 0).toNat + 256 * num (zs.drop (k + 1)) := by
  rw [List.drop_eq_getElem_cons h, num]
  simp [List.getD, h]
theorem pow256_le {k m : Nat} (h : k ≤ m) : 256 ^ k ≤ 256 ^ m := Nat.pow_le_pow_right (by omega) h
/- The text of so many bytes at most. -/
def txt (zs : List Int) : List Int := put (zs.take 65535).length 2 ++ zs.take 65535
/- What a reader's call answers, and what it leaves: the bytes that are left, and whether it is short. -/
def canTake (zs : List Int) (k : Nat) : Prop := k ≤ zs.length
def left (zs : List Int) (k : Nat) : List Int := if k ≤ zs.length then zs.drop k else []
def got (zs : List Int) (k : Nat) : List Int := if k ≤ zs.length then zs.take k else []
def shortBy (zs : List Int) (k : Nat) (s : Bool) : Bool := if k ≤ zs.length then s else true
theorem left_bytes {zs : List Int} (h : Bytes zs) (k : Nat) : Bytes (left zs k) := by
  unfold left
  split
  · exact bytes_drop h k
  · exact bytes_nil
theorem got_bytes {zs : List Int} (h : Bytes zs) (k : Nat) : Bytes (got zs k) := by
  unfold got
  split
  · exact bytes_take h k
  · exact bytes_nil
theorem left_length_le (zs : List Int) (k : Nat) : (left zs k).length ≤ zs.length := by
  unfold left
  split
  · simp
  · simp
theorem got_length_le (zs : List Int) (k : Nat) : (got zs k).length ≤ k := by
  unfold got
  split
  · simp; omega
  · simp
theorem num_got_lt {zs : List Int} (h : Bytes zs) {k : Nat} (hk : k ≤ 8) : num (got zs k) < 18446744073709551616 := by
  have h1 := num_lt (got_bytes h k)
  have h2 : 256 ^ (got zs k).length ≤ 256 ^ 8 := pow256_le (Nat.le_trans (got_length_le zs k) hk)
  have h3 : (256 : Nat) ^ 8 = 18446744073709551616 := by decide
  omega
theorem num_got2_lt {zs : List Int} (h : Bytes zs) : num (got zs 2) < 65536 := by
  have h1 := num_lt (got_bytes h 2)
  have h2 : 256 ^ (got zs 2).length ≤ 256 ^ 2 := pow256_le (got_length_le zs 2)
  have h3 : (256 : Nat) ^ 2 = 65536 := by decide
  omega
end Go.Proofs.Ytbdbbnpkekcefaa.Pack
namespace Go.Proofs.Ytbdbbnpkekcefaa.Pack
open Go.Proofs.Ytbdbbnpkekcefaa.Mem
open Go.ChangeShapes Go.WideShapes Go.ChangeAt Go.RowKit
set_option linter.unusedVariables false

theorem ret_int {k : IntKind} {a b : Int} (h : a = b) : Ending.returned (.int k a) = .returned (.int k b) := by rw [h]
theorem val_int {k : IntKind} {a b : Int} (h : a = b) : Value.int k a = .int k b := by rw [h]
theorem u8_info : (Try.prog.info? 5).map (fun i => (i.zero, i.size, i.bytes)) = some (some (.int .u8 0), 1, 1) := by kernel_rfl

theorem may_yes (k : Int) (h1 : 1 ≤ k) (h8 : k ≤ 8) (w : World) :
    Calls Try.prog 59 #[.int .i64 k] w fun e w' => e = .returned (.bool true) ∧ w = w' := by
  go_enter Try.func59, Try.ntmps59
  go_wp2
  go_ret
  exact ⟨rfl, rfl⟩
theorem may_no (k : Int) (h : k < 1 ∨ 8 < k) (w : World) :
    Calls Try.prog 59 #[.int .i64 k] w fun e w' => e = .returned (.bool false) ∧ w = w' := by
  by_cases h1 : k < 1
  · go_enter Try.func59, Try.ntmps59
    go_wp2
    go_ret
    exact ⟨rfl, rfl⟩
  · have h8 : decide (k ≤ 8) = false := by simp; omega
    go_enter Try.func59, Try.ntmps59
    go_wp2
    go_ret
    exact ⟨rfl, rfl⟩

theorem put_none (v : Value) (n : Int) (k : Int) (h : k < 1 ∨ 8 < k) (w : World) :
    Calls Try.prog 33 #[v, .int .u64 n, .int .i64 k] w fun e w' => e = .returned v ∧ w = w' := by
  go_enter Try.func33, Try.ntmps33
  go_wp2
  go_step3
  go_wp2_with (go_at_call 59; refine (may_no k h _).mono ?_; rintro e w' ⟨rfl, rfl⟩)
  rw [Exit.noGoto_ret]
  go_ret
  exact ⟨rfl, rfl⟩

/- The state of Put at its label: j bytes of m are still to be put. -/
def AtNext (w : World) (v : Value) (base len : Nat) (xs : List Int) (n k : Nat) (a' : Act) (w' : World) : Prop :=
  ∃ (v' : Value) (m j : Nat) (ys : List Int) (u7 u8 u9 u10 u11 u12 u13 u14 u15 u16 u17 u18 u19 u20 u21 u22 : Value), a' = { tmps := #[v', .int .u64 (m : Int), .int .i64 (j : Int), undef, undef, undef, .slice none 0 0, u7, u8, u9, u10, u11, u12, u13, u14, u15, u16, u17, u18, u19, u20, u21, u22], defers := [] } ∧
    w'.ownsRow base 5 1 v' (len + (k - j)) (cellsOf ys) ∧ Onto w w' v v' ∧ ys ++ put m j = xs ++ put n k ∧ 1 ≤ j ∧ j ≤ k ∧ m < 18446744073709551616 ∧ base ≤ w'.heap.size
theorem next_step {ys zs : List Int} {m j : Nat} (h : ys ++ put m (j + 1) = zs) : (ys ++ [((m % 256 : Nat) : Int)]) ++ put (m / 256) j = zs := by
  rw [← h, put, List.append_assoc]; rfl
theorem next_last {ys zs : List Int} {m : Nat} (h : ys ++ put m 1 = zs) : ys ++ [((m % 256 : Nat) : Int)] = zs := by
  have := next_step (j := 0) h
  simpa [put] using this
/- A scope with one label, which the run also comes to from above: what follows the label is walked once. -/
theorem scope_label {P : Program} {a : Act} {w : World} {Q : Exit → Act → World → Prop} {c rest : Code} (l : Nat) (J : Act → World → Prop) (μ : Act → World → Nat) (hf : findLabel c l = some (Code.skip.seq rest))
    (pass : ∀ a w, J a w → rest.wp P (Exit.jump l (fun a' w' => J a' w' ∧ μ a' w' < μ a w) Q) a w)
    (first : (∀ a w, J a w → rest.wp P (Exit.jump l J Q) a w) → c.wp P (Exit.jump l J Q) a w) : (Code.scope c).wp P Q a w := by
  refine wp_scope_jumps l J μ hf (first fun a w hJ => Code.wp_mono ?_ (pass a w hJ)) (fun a w hJ => wp_seq (wp_skip (pass a w hJ)))
  intro e a' w' h
  cases e <;> first | exact h | exact ⟨h.1, h.2.1⟩
set_option maxRecDepth 100000 in
set_option maxHeartbeats 1000000 in
theorem put_any (n : Nat) (hn : n < 18446744073709551616) (k : Nat) (h1 : 1 ≤ k) (h8 : k ≤ 8) (v : Value) (len : Nat) (xs : List Int) (base : Nat) (w : World)
    (hown : w.ownsRow base 5 1 v len (cellsOf xs)) (hb : base ≤ w.heap.size) (hl : len ≤ 1073741824) :
    Calls Try.prog 33 #[v, .int .u64 (n : Int), .int .i64 (k : Int)] w fun e w' => ∃ v', e = .returned v' ∧ w'.ownsRow base 5 1 v' (len + k) (cellsOf (xs ++ put n k)) ∧ Onto w w' v v' := by
  obtain ⟨i0, hi0, hz0, hz1, hz2⟩ := info_parts u8_info
  go_enter Try.func33, Try.ntmps33
  go_wp2
  refine scope_label 0 (AtNext w v base len xs n k) (fun a' _ => (intOf (a'.tmps.getD 2 undef)).toNat) rfl ?_ ?_
  · rintro a' wr ⟨v', m, j, ys, u7, u8, u9, u10, u11, u12, u13, u14, u15, u16, u17, u18, u19, u20, u21, u22, rfl, ho, hon, hys, hj1, hjk, hm, hbr⟩
    have e1 : (ys ++ [((m % 256 : Nat) : Int)]).length = ys.length + 1 := by simp
    have HYS := Lib.hid hys
    clear hys
    by_cases hj : 1 < j
    · go_wp2_with (at_builtin; refine wpList_append_onto rfl (.tmp 11) (.tmp 14) _ rfl base 5 i0 _ 1 1 Try.underlying22 hi0 hz0 hz1 hz2 rfl (by omega) v' (len + (k - j)) (cellsOf ys) rfl (ownsRow_alloc ho _) _ 1 _ rfl (sees_one _ _ _ _) (by simp [Value.oneCell']) (by simp only [maxLen]; omega) (by omega) (by simp; omega) ?_; intro v2 w2 ho2 hon2)
      have e2 : (m : Int) / 256 = ((m / 256 : Nat) : Int) := by omega
      have e3 : (j : Int) - 1 = ((j - 1 : Nat) : Int) := by omega
      rw [e2, e3]
      go_step3
      refine ⟨rfl, ⟨v2, m / 256, j - 1, ys ++ [((m % 256 : Nat) : Int)], _, _, _, _, _, _, _, _, _, _, _, _, _, _, _, _, rfl, ?_, hon.trans (hon2.of_alloc (fun k hk => (ho.lt k hk).2)), ?_, by omega, by omega, by omega, ?_⟩, ?_⟩
      · rw [cellsOf_append]
        have e4 : len + (k - (j - 1)) = len + (k - j) + 1 := by omega
        rw [e4]
        exact ho2
      · exact next_step (j := j - 1) (by rw [show j - 1 + 1 = j by omega]; exact HYS.out)
      · have := hon2.grown.size; simp at this; omega
      · simp [intOf]; omega
    · have hj0 : j = 1 := by omega
      subst hj0
      go_wp2_with (at_builtin; refine wpList_append_onto rfl (.tmp 11) (.tmp 14) _ rfl base 5 i0 _ 1 1 Try.underlying22 hi0 hz0 hz1 hz2 rfl (by omega) v' (len + (k - 1)) (cellsOf ys) rfl (ownsRow_alloc ho _) _ 1 _ rfl (sees_one _ _ _ _) (by simp [Value.oneCell']) (by simp only [maxLen]; omega) (by omega) (by simp; omega) ?_; intro v2 w2 ho2 hon2)
      simp only [Exit.jump]
      go_ret
      refine ⟨v2, rfl, ?_, hon.trans (hon2.of_alloc (fun k hk => (ho.lt k hk).2))⟩
      have e4 : len + k = len + (k - 1) + 1 := by omega
      have e5 := next_last HYS.out
      rw [e4, ← e5, cellsOf_append]
      exact ho2
  · intro hrest
    go_wp2_with (go_at_call 59; refine (may_yes _ (by omega) (by omega) _).mono ?_; rintro e w' ⟨rfl, rfl⟩)
    go_step3
    rename_i hK
    exact hK _ _ (hrest _ _ ⟨v, n, k, xs, _, _, _, _, _, _, _, _, _, _, _, _, _, _, _, _, rfl, by simpa using hown, Onto.refl _ _, rfl, h1, Nat.le_refl _, hn, hb⟩)
end Go.Proofs.Ytbdbbnpkekcefaa.Pack
namespace Go.Proofs.Ytbdbbnpkekcefaa.Pack
open Go.Proofs.Ytbdbbnpkekcefaa.Mem
open Go.ChangeShapes Go.WideShapes Go.ChangeAt Go.RowKit
set_option linter.unusedVariables false

set_option maxRecDepth 100000 in
set_option maxHeartbeats 1000000 in
theorem refPut_any (n : Nat) (hn : n < 18446744073709551616) (k : Nat) (h8 : k ≤ 8) (v : Value) (len : Nat) (xs : List Int) (base : Nat) (w : World)
    (hown : w.ownsRow base 5 1 v len (cellsOf xs)) (hb : base ≤ w.heap.size) (hl : len ≤ 1073741824) :
    Calls Try.prog 36 #[v, .int .u64 (n : Int), .int .i64 (k : Int)] w fun e w' => ∃ v', e = .returned v' ∧ w'.ownsRow base 5 1 v' (len + k) (cellsOf (xs ++ put n k)) ∧ Onto w w' v v' := by
  obtain ⟨i0, hi0, hz0, hz1, hz2⟩ := info_parts u8_info
  go_enter Try.func36, Try.ntmps36
  go_wp2
  go_loopw [0, 1, 7] (fun v' m' i wr => ∃ (m j : Nat) (ys : List Int), j ≤ k ∧ i = .int .i64 (j : Int) ∧ m' = .int .u64 (m : Int) ∧ wr.ownsRow base 5 1 v' (len + j) (cellsOf ys) ∧ Onto w wr v v' ∧ ys ++ put m (k - j) = xs ++ put n k ∧ m < 18446744073709551616 ∧ base ≤ wr.heap.size) (fun _ _ i _ => k - (intOf i).toNat)
  case atStart => exact ⟨n, 0, xs, by omega, rfl, rfl, hown, Onto.refl _ _, rfl, hn, hb⟩
  case round =>
    obtain ⟨m, j, ys, hj, rfl, rfl, ho, hon, hys, hm, hbr⟩ := hrel
    have HYS := Lib.hid hys
    clear hys
    by_cases hlt : j < k
    · go_wp2_with (at_builtin; refine wpList_append_onto rfl (.tmp 17) (.tmp 21) _ rfl base 5 i0 _ 1 1 Try.underlying22 hi0 hz0 hz1 hz2 rfl (by omega) u0 (len + j) (cellsOf ys) rfl (ownsRow_alloc ho _) _ 1 _ rfl (sees_one _ _ _ _) (by simp [Value.oneCell']) (by simp only [maxLen]; omega) (by omega) (by simp; omega) ?_; intro v2 w2 ho2 hon2)
      have e2 : (m : Int) / 256 = ((m / 256 : Nat) : Int) := by omega
      rw [e2]
      go_roundw
      case rel =>
        refine ⟨m / 256, j + 1, ys ++ [((m % 256 : Nat) : Int)], by omega, by go_num, rfl, ?_, hon.trans (hon2.of_alloc (fun k hk => (ho.lt k hk).2)), ?_, by omega, ?_⟩
        · rw [cellsOf_append]; exact ho2
        · exact next_step (j := k - (j + 1)) (by rw [show k - (j + 1) + 1 = k - j by omega]; exact HYS.out)
        · have := hon2.grown.size; simp at this; omega
      case measure => simp [intOf]; omega
    · have hjk : j = k := by omega
      subst hjk
      go_wp2
      go_ret
      refine ⟨_, rfl, ?_, hon⟩
      have e5 := HYS.out
      rw [Nat.sub_self, put, List.append_nil] at e5
      rw [← e5]
      exact ho
/- The first 65535 bytes of a string. -/
def cut (s : ByteArray) : ByteArray := if 65535 < s.size then s.extract 0 65535 else s
theorem strBytes_take (T : ByteArray) (j : Nat) (h : j < T.size) : (strBytes T).take (j + 1) = (strBytes T).take j ++ [((T[j]).toNat : Int)] := by
  have hl : j < (strBytes T).length := by rw [strBytes_length]; exact h
  rw [List.take_succ_eq_append_getElem hl]
  have e : (strBytes T)[j]'hl = ((T[j]).toNat : Int) := (List.getElem_map (f := fun b : UInt8 => (b.toNat : Int)) (l := T.data.toList) (i := j) (h := hl)).trans rfl
  rw [e]
theorem strBytes_all (T : ByteArray) {j : Nat} (h : ¬ j < T.size) : (strBytes T).take j = strBytes T := List.take_of_length_le (by rw [strBytes_length]; omega)
/- The state of PutText at its label: j bytes of the text are put. -/
def AtText (w : World) (v : Value) (base len : Nat) (xs : List Int) (T : ByteArray) (a' : Act) (w' : World) : Prop :=
  ∃ (v' : Value) (j : Nat) (u6 u7 u8 u9 u10 u11 u12 u13 u14 u15 u16 u17 u18 u19 u20 u21 u22 u23 u24 u25 u26 u27 u28 : Value), a' = { tmps := #[v', .string T, undef, undef, .slice none 0 0, .int .i64 (j : Int), u6, u7, u8, u9, u10, u11, u12, u13, u14, u15, u16, u17, u18, u19, u20, u21, u22, u23, u24, u25, u26, u27, u28], defers := [] } ∧ j ≤ T.size ∧
    w'.ownsRow base 5 1 v' (len + 2 + j) (cellsOf (xs ++ put T.size 2 ++ (strBytes T).take j)) ∧ Onto w w' v v' ∧ base ≤ w'.heap.size
set_option maxRecDepth 100000 in
set_option maxHeartbeats 1000000 in
theorem putText_any (s T : ByteArray) (hT : T = cut s) (v : Value) (len : Nat) (xs : List Int) (base : Nat) (w : World)
    (hown : w.ownsRow base 5 1 v len (cellsOf xs)) (hb : base ≤ w.heap.size) (hl : len ≤ 1073741824) (hs : s.size ≤ 140737488355328) :
    Calls Try.prog 54 #[v, .string s] w fun e w' => ∃ v', e = .returned v' ∧ w'.ownsRow base 5 1 v' (len + 2 + T.size) (cellsOf (xs ++ put T.size 2 ++ strBytes T)) ∧ Onto w w' v v' := by
  obtain ⟨i0, hi0, hz0, hz1, hz2⟩ := info_parts u8_info
  have HT := Lib.hid hT
  have hTs : T.size ≤ 65535 := by
    rw [hT, cut]
    split
    · rw [ByteArray.size_extract]; omega
    · omega
  clear hT
  go_enter Try.func54, Try.ntmps54
  go_wp2
  refine scope_label 0 (AtText w v base len xs T) (fun a' _ => T.size - (intOf (a'.tmps.getD 5 undef)).toNat) rfl ?_ ?_
  · rintro a' wr ⟨v', j, u6, u7, u8, u9, u10, u11, u12, u13, u14, u15, u16, u17, u18, u19, u20, u21, u22, u23, u24, u25, u26, u27, u28, rfl, hj, ho, hon, hbr⟩
    by_cases hlt : j < T.size
    · go_wp2_with (at_builtin; refine wpList_append_onto rfl (.tmp 20) (.tmp 24) _ rfl base 5 i0 _ 1 1 Try.underlying22 hi0 hz0 hz1 hz2 rfl (by omega) v' (len + 2 + j) (cellsOf (xs ++ put T.size 2 ++ (strBytes T).take j)) rfl (ownsRow_alloc ho _) _ 1 _ rfl (sees_one _ _ _ _) (by simp [Value.oneCell']) (by simp only [maxLen]; omega) (by omega) (by simp; omega) ?_; intro v2 w2 ho2 hon2)
      have e3 : (j : Int) + 1 = ((j + 1 : Nat) : Int) := by omega
      rw [e3]
      go_step3
      refine ⟨rfl, ⟨v2, j + 1, _, _, _, _, _, _, _, _, _, _, _, _, _, _, _, _, _, _, _, _, _, _, _, rfl, by omega, ?_, hon.trans (hon2.of_alloc (fun k hk => (ho.lt k hk).2)), ?_⟩, ?_⟩
      · rw [strBytes_take T j hlt, ← List.append_assoc, cellsOf_append (xs ++ put T.size 2 ++ (strBytes T).take j)]
        exact ho2
      · have := hon2.grown.size; simp at this; omega
      · simp [intOf]; omega
    · have hj0 : j = T.size := by omega
      rw [strBytes_all T hlt] at ho
      subst hj0
      go_wp2
      simp only [Exit.jump]
      go_ret
      exact ⟨_, rfl, ho, hon⟩
  · intro hrest
    have HR := Lib.hid hrest
    clear hrest
    by_cases h : 65535 < s.size
    · have hTe : T = s.extract 0 65535 := by rw [HT.out, cut, if_pos h]
      have hsz : T.size = min 65535 s.size := by rw [hTe, ByteArray.size_extract]; omega
      have HSZ := Lib.hid hsz
      have HTE := Lib.hid hTe
      clear hsz hTe
      go_wp2_with (go_at_call 33; refine (put_any (min 65535 s.size) (by omega) 2 (by omega) (by omega) v len xs base w hown hb hl).mono ?_; rintro e w1 ⟨v1, rfl, ho1, hon1⟩)
      go_step3
      rename_i hK
      refine hK _ _ (HR.out _ _ ?_)
      rw [← HTE.out]
      refine ⟨v1, 0, _, _, _, _, _, _, _, _, _, _, _, _, _, _, _, _, _, _, _, _, _, _, _, rfl, by omega, ?_, hon1, ?_⟩
      · rw [← HSZ.out] at ho1
        simpa using ho1
      · have := hon1.grown.size; omega
    · have hTe : T = s := by rw [HT.out, cut, if_neg h]
      subst hTe
      go_wp2_with (go_at_call 33; refine (put_any T.size (by omega) 2 (by omega) (by omega) v len xs base w hown hb hl).mono ?_; rintro e w1 ⟨v1, rfl, ho1, hon1⟩)
      go_step3
      rename_i hK
      refine hK _ _ (HR.out _ _ ?_)
      refine ⟨v1, 0, _, _, _, _, _, _, _, _, _, _, _, _, _, _, _, _, _, _, _, _, _, _, _, rfl, by omega, ?_, hon1, ?_⟩
      · simpa using ho1
      · have := hon1.grown.size; omega

theorem grown_onto {w w1 w2 : World} {v v1 : Value} (h : Onto w w1 v v1) (k : w1.grownBy w2 v1.ownBlock) : w.grownBy w2 v.ownBlock := by
  have hs := h.grown.size
  refine ⟨k.os.trans h.grown.os, k.tape.trans h.grown.tape, k.output.trans h.grown.output, Nat.le_trans hs k.size, fun i hi hne => ?_⟩
  refine (k.block i (by omega) (fun e => ?_)).trans (h.grown.block i hi hne)
  rcases h.own with h1 | h1
  · exact hne (e.trans h1)
  · have := h1 i e.symm; omega
set_option maxRecDepth 100000 in
set_option maxHeartbeats 1000000 in
theorem refText_grown (s T : ByteArray) (hT : T = cut s) (v : Value) (len : Nat) (xs : List Int) (base : Nat) (w : World)
    (hown : w.ownsRow base 5 1 v len (cellsOf xs)) (hb : base ≤ w.heap.size) (hl : len ≤ 1073741824) (hs : s.size ≤ 140737488355328) :
    Calls Try.prog 37 #[v, .string s] w fun e w' => ∃ v', e = .returned v' ∧ w'.ownsRow base 5 1 v' (len + 2 + T.size) (cellsOf (xs ++ put T.size 2 ++ strBytes T)) ∧ w.grownBy w' v.ownBlock := by
  obtain ⟨i0, hi0, hz0, hz1, hz2⟩ := info_parts u8_info
  have HT := Lib.hid hT
  have hTs : T.size ≤ 65535 := by
    rw [hT, cut]
    split
    · rw [ByteArray.size_extract]; omega
    · omega
  clear hT
  by_cases h : 65535 < s.size
  · have hTe : T = s.extract 0 65535 := by rw [HT.out, cut, if_pos h]
    have hsz : T.size = min 65535 s.size := by rw [hTe, ByteArray.size_extract]; omega
    have HSZ := Lib.hid hsz
    have HTE := Lib.hid hTe
    clear hsz hTe
    go_enter Try.func37, Try.ntmps37
    go_wp2_with (first
      | (go_at_call 36; refine (refPut_any (min 65535 s.size) (by omega) 2 (by omega) v len xs base w hown hb hl).mono ?_; rintro e w1 ⟨v1, rfl, ho1, hon1⟩)
      | (at_builtin; refine wpList_append_str_grown rfl (.tmp 14) (.tmp 15) _ _ rfl base 5 i0 Try.underlying22 Try.underlying9 hi0 hz0 hz1 hz2 v1 (len + 2) _ rfl ho1 (s.extract 0 65535) rfl (by rw [← HTE.out]; simp only [maxLen]; omega) (by rw [← HTE.out]; omega) (by have := hon1.grown.size; omega) ?_; intro v2 w2 ho2 hb2))
    go_ret
    refine ⟨_, rfl, ?_, grown_onto hon1 hb2⟩
    rw [← HTE.out, ← HSZ.out, ← cellsOf_append] at ho2
    exact ho2
  · have hTe : T = s := by rw [HT.out, cut, if_neg h]
    subst hTe
    go_enter Try.func37, Try.ntmps37
    go_wp2_with (first
      | (go_at_call 36; refine (refPut_any T.size (by omega) 2 (by omega) v len xs base w hown hb hl).mono ?_; rintro e w1 ⟨v1, rfl, ho1, hon1⟩)
      | (at_builtin; refine wpList_append_str_grown rfl (.tmp 14) (.tmp 15) _ _ rfl base 5 i0 Try.underlying22 Try.underlying9 hi0 hz0 hz1 hz2 v1 (len + 2) _ rfl ho1 T rfl (by simp only [maxLen]; omega) (by omega) (by have := hon1.grown.size; omega) ?_; intro v2 w2 ho2 hb2))
    go_ret
    refine ⟨_, rfl, ?_, grown_onto hon1 hb2⟩
    rw [← cellsOf_append] at ho2
    exact ho2
theorem refText_any (s T : ByteArray) (hT : T = cut s) (v : Value) (len : Nat) (xs : List Int) (base : Nat) (w : World)
    (hown : w.ownsRow base 5 1 v len (cellsOf xs)) (hb : base ≤ w.heap.size) (hl : len ≤ 1073741824) (hs : s.size ≤ 140737488355328) :
    Calls Try.prog 37 #[v, .string s] w fun e w' => ∃ v', e = .returned v' ∧ w'.ownsRow base 5 1 v' (len + 2 + T.size) (cellsOf (xs ++ put T.size 2 ++ strBytes T)) ∧ Below base w w' := by
  refine (refText_grown s T hT v len xs base w hown hb hl hs).mono ?_
  rintro e w' ⟨v', rfl, h1, h2⟩
  exact ⟨v', rfl, h1, (Below.refl base w).grown h2 hb (fun k hk => (hown.lt k hk).1)⟩
end Go.Proofs.Ytbdbbnpkekcefaa.Pack

/- In one text: Numbers as bytes, the lowest byte first: what is put, what is read, and that what was put is read. Contracts of pack.Put, pack.PutText and the reference's Put and Text: what they append to a row of the caller's own. Contracts of pack.PutText and of the reference's Put and Text: what they append to a row of the caller's own. Contracts of pack's reader: New, Number, Text, Left, Short: what they answer, and what bytes are left behind them. Contracts of the reference's reader: they answer as the reader of layer 2 does. The reference's Text answers as the reader's of layer 2 does. Words on layer 2's readers that the layers above it use. (These stand in PackUp, PackPuts, PackBack and PackReads too: import those or this.) -/
import Derived.Test.YtgjofinbdigmcaaOwn
import Derived.Test.YtgjofinbdigmcaaProg
import Derived.WalkKit
import Derived.ProofKit
import Derived.Below
import Derived.Outline
import Derived.WalkSpells
import Derived.WalkLawsBesides
import Derived.LoopTactic
import Derived.Lib.Hide
import Derived.WalkMore
import Derived.ScopeJumps
import Derived.Deep.QuietTactic
import Derived.BigQuiet
namespace Go.Proofs.Ytgjofinbdigmcaa.Pack
open Go.Proofs.Ytgjofinbdigmcaa.Mem
set_option linter.unusedVariables false

def put (n : Nat) : Nat → List Int
  | 0 => []
  | k + 1 => ((n % 256 : Nat) : Int) :: put (n / 256) k
def num : List Int → Nat
  | [] => 0
  | z :: zs => z.toNat + 256 * num zs
theorem put_length (n k : Nat) : (put n k).length = k := by
  induction k generalizing n with
  | zero => rfl
  | succ k ih => simp [put, ih]
theorem put_bytes (n k : Nat) : Bytes (put n k) := by
  induction k generalizing n with
  | zero => exact bytes_nil
  | succ k ih =>
    intro z hz
    rcases List.mem_cons.mp hz with rfl | h
    · omega
    · exact ih _ z h
theorem num_put (n k : Nat) : num (put n k) = n % 256 ^ k := by
  induction k generalizing n with
  | zero => simp [put, num, Nat.mod_one]
  | succ k ih =>
    simp only [put, num, ih]
    rw [Nat.pow_succ, Nat.mul_comm (256 ^ k) 256, Nat.mod_mul]
    omega
theorem num_append (xs ys : List Int) : num (xs ++ ys) = num xs + 256 ^ xs.length * num ys := by
  induction xs with
  | nil => simp [num]
  | cons x xs ih => rw [List.cons_append, num, num, ih, List.length_cons, Nat.pow_succ, Nat.mul_comm (256 ^ xs.length) 256, Nat.mul_assoc, Nat.mul_add]; omega
theorem num_lt {zs : List Int} (h : Bytes zs) : num zs < 256 ^ zs.length := by
  induction zs with
  | nil => simp [num]
  | cons z zs ih =>
    have h1 := h z (List.mem_cons_self ..)
    have h2 := ih (fun x hx => h x (List.mem_cons_of_mem _ hx))
    rw [num, List.length_cons, Nat.pow_succ]
    omega
theorem num_snoc (zs : List Int) (k : Nat) (h : k < zs.length) : num (zs.take (k + 1)) = num (zs.take k) + 256 ^ k * (zs.getD k 0).toNat := by
  rw [take_snoc zs k h, num_append]
  simp [num, List.length_take, Nat.min_eq_left (Nat.le_of_lt h)]
theorem num_cons (zs : List Int) (k : Nat) (h : k < zs.length) : num (zs.drop k) = (zs.getD k 0).toNat + 256 * num (zs.drop (k + 1)) := by
  rw [List.drop_eq_getElem_cons h, num]
  simp [List.getD, h]
theorem pow256_le {k m : Nat} (h : k ≤ m) : 256 ^ k ≤ 256 ^ m := Nat.pow_le_pow_right (by omega) h
/- The text of so many bytes at most. -/
def txt (zs : List Int) : List Int := put (zs.take 65535).length 2 ++ zs.take 65535
/- What a reader's call answers, and what it leaves: the bytes that are left, and whether it is short. -/
def canTake (zs : List Int) (k : Nat) : Prop := k ≤ zs.length
def left (zs : List Int) (k : Nat) : List Int := if k ≤ zs.length then zs.drop k else []
def got (zs : List Int) (k : Nat) : List Int := if k ≤ zs.length then zs.take k else []
def shortBy (zs : List Int) (k : Nat) (s : Bool) : Bool := if k ≤ zs.length then s else true
theorem left_bytes {zs : List Int} (h : Bytes zs) (k : Nat) : Bytes (left zs k) := by
  unfold left
  split
  · exact bytes_drop h k
  · exact bytes_nil
theorem got_bytes {zs : List Int} (h : Bytes zs) (k : Nat) : Bytes (got zs k) := by
  unfold got
  split
  · exact bytes_take h k
  · exact bytes_nil
theorem left_length_le (zs : List Int) (k : Nat) : (left zs k).length ≤ zs.length := by
  unfold left
  split
  · simp
  · simp
theorem got_length_le (zs : List Int) (k : Nat) : (got zs k).length ≤ k := by
  unfold got
  split
  · simp; omega
  · simp
theorem num_got_lt {zs : List Int} (h : Bytes zs) {k : Nat} (hk : k ≤ 8) : num (got zs k) < 18446744073709551616 := by
  have h1 := num_lt (got_bytes h k)
  have h2 : 256 ^ (got zs k).length ≤ 256 ^ 8 := pow256_le (Nat.le_trans (got_length_le zs k) hk)
  have h3 : (256 : Nat) ^ 8 = 18446744073709551616 := by decide
  omega
theorem num_got2_lt {zs : List Int} (h : Bytes zs) : num (got zs 2) < 65536 := by
  have h1 := num_lt (got_bytes h 2)
  have h2 : 256 ^ (got zs 2).length ≤ 256 ^ 2 := pow256_le (got_length_le zs 2)
  have h3 : (256 : Nat) ^ 2 = 65536 := by decide
  omega
end Go.Proofs.Ytgjofinbdigmcaa.Pack
namespace Go.Proofs.Ytgjofinbdigmcaa.Pack
open Go.Proofs.Ytgjofinbdigmcaa.Mem
open Go.ChangeShapes Go.WideShapes Go.ChangeAt Go.RowKit
set_option linter.unusedVariables false

theorem ret_int {k : IntKind} {a b : Int} (h : a = b) : Ending.returned (.int k a) = .returned (.int k b) := by rw [h]
theorem val_int {k : IntKind} {a b : Int} (h : a = b) : Value.int k a = .int k b := by rw [h]
theorem u8_info : (Try.prog.info? 5).map (fun i => (i.zero, i.size, i.bytes)) = some (some (.int .u8 0), 1, 1) := by kernel_rfl

theorem may_yes (k : Int) (h1 : 1 ≤ k) (h8 : k ≤ 8) (w : World) :
    Calls Try.prog 63 #[.int .i64 k] w fun e w' => e = .returned (.bool true) ∧ w = w' := by
  go_enter Try.func63, Try.ntmps63
  go_wp2
  go_ret
  exact ⟨rfl, rfl⟩
theorem may_no (k : Int) (h : k < 1 ∨ 8 < k) (w : World) :
    Calls Try.prog 63 #[.int .i64 k] w fun e w' => e = .returned (.bool false) ∧ w = w' := by
  by_cases h1 : k < 1
  · go_enter Try.func63, Try.ntmps63
    go_wp2
    go_ret
    exact ⟨rfl, rfl⟩
  · have h8 : decide (k ≤ 8) = false := by simp; omega
    go_enter Try.func63, Try.ntmps63
    go_wp2
    go_ret
    exact ⟨rfl, rfl⟩

theorem put_none (v : Value) (n : Int) (k : Int) (h : k < 1 ∨ 8 < k) (w : World) :
    Calls Try.prog 52 #[v, .int .u64 n, .int .i64 k] w fun e w' => e = .returned v ∧ w = w' := by
  go_enter Try.func52, Try.ntmps52
  go_wp2
  go_step3
  go_wp2_with (go_at_call 63; refine (may_no k h _).mono ?_; rintro e w' ⟨rfl, rfl⟩)
  rw [Exit.noGoto_ret]
  go_ret
  exact ⟨rfl, rfl⟩

/- The state of Put at its label: j bytes of m are still to be put. -/
def AtNext (w : World) (v : Value) (base len : Nat) (xs : List Int) (n k : Nat) (a' : Act) (w' : World) : Prop :=
  ∃ (v' : Value) (m j : Nat) (ys : List Int) (u7 u8 u9 u10 u11 u12 u13 u14 u15 u16 u17 u18 u19 u20 u21 u22 : Value), a' = { tmps := #[v', .int .u64 (m : Int), .int .i64 (j : Int), undef, undef, undef, .slice none 0 0, u7, u8, u9, u10, u11, u12, u13, u14, u15, u16, u17, u18, u19, u20, u21, u22], defers := [] } ∧
    w'.ownsRow base 5 1 v' (len + (k - j)) (cellsOf ys) ∧ Onto w w' v v' ∧ ys ++ put m j = xs ++ put n k ∧ 1 ≤ j ∧ j ≤ k ∧ m < 18446744073709551616 ∧ base ≤ w'.heap.size
theorem next_step {ys zs : List Int} {m j : Nat} (h : ys ++ put m (j + 1) = zs) : (ys ++ [((m % 256 : Nat) : Int)]) ++ put (m / 256) j = zs := by
  rw [← h, put, List.append_assoc]; rfl
theorem next_last {ys zs : List Int} {m : Nat} (h : ys ++ put m 1 = zs) : ys ++ [((m % 256 : Nat) : Int)] = zs := by
  have := next_step (j := 0) h
  simpa [put] using this
/- A scope with one label, which the run also comes to from above: what follows the label is walked once. -/
theorem scope_label {P : Program} {a : Act} {w : World} {Q : Exit → Act → World → Prop} {c rest : Code} (l : Nat) (J : Act → World → Prop) (μ : Act → World → Nat) (hf : findLabel c l = some (Code.skip.seq rest))
    (pass : ∀ a w, J a w → rest.wp P (Exit.jump l (fun a' w' => J a' w' ∧ μ a' w' < μ a w) Q) a w)
    (first : (∀ a w, J a w → rest.wp P (Exit.jump l J Q) a w) → c.wp P (Exit.jump l J Q) a w) : (Code.scope c).wp P Q a w := by
  refine wp_scope_jumps l J μ hf (first fun a w hJ => Code.wp_mono ?_ (pass a w hJ)) (fun a w hJ => wp_seq (wp_skip (pass a w hJ)))
  intro e a' w' h
  cases e <;> first | exact h | exact ⟨h.1, h.2.1⟩
set_option maxRecDepth 100000 in
set_option maxHeartbeats 1000000 in
theorem put_any (n : Nat) (hn : n < 18446744073709551616) (k : Nat) (h1 : 1 ≤ k) (h8 : k ≤ 8) (v : Value) (len : Nat) (xs : List Int) (base : Nat) (w : World)
    (hown : w.ownsRow base 5 1 v len (cellsOf xs)) (hb : base ≤ w.heap.size) (hl : len ≤ 1073741824) :
    Calls Try.prog 52 #[v, .int .u64 (n : Int), .int .i64 (k : Int)] w fun e w' => ∃ v', e = .returned v' ∧ w'.ownsRow base 5 1 v' (len + k) (cellsOf (xs ++ put n k)) ∧ Onto w w' v v' := by
  obtain ⟨i0, hi0, hz0, hz1, hz2⟩ := info_parts u8_info
  go_enter Try.func52, Try.ntmps52
  go_wp2
  refine scope_label 0 (AtNext w v base len xs n k) (fun a' _ => (intOf (a'.tmps.getD 2 undef)).toNat) rfl ?_ ?_
  · rintro a' wr ⟨v', m, j, ys, u7, u8, u9, u10, u11, u12, u13, u14, u15, u16, u17, u18, u19, u20, u21, u22, rfl, ho, hon, hys, hj1, hjk, hm, hbr⟩
    have e1 : (ys ++ [((m % 256 : Nat) : Int)]).length = ys.length + 1 := by simp
    have HYS := Lib.hid hys
    clear hys
    by_cases hj : 1 < j
    · go_wp2_with (at_builtin; refine wpList_append_onto rfl (.tmp 11) (.tmp 14) _ rfl base 5 i0 _ 1 1 Try.underlying90 hi0 hz0 hz1 hz2 rfl (by omega) v' (len + (k - j)) (cellsOf ys) rfl (ownsRow_alloc ho _) _ 1 _ rfl (sees_one _ _ _ _) (by simp [Value.oneCell']) (by simp only [maxLen]; omega) (by omega) (by simp; omega) ?_; intro v2 w2 ho2 hon2)
      have e2 : (m : Int) / 256 = ((m / 256 : Nat) : Int) := by omega
      have e3 : (j : Int) - 1 = ((j - 1 : Nat) : Int) := by omega
      rw [e2, e3]
      go_step3
      refine ⟨rfl, ⟨v2, m / 256, j - 1, ys ++ [((m % 256 : Nat) : Int)], _, _, _, _, _, _, _, _, _, _, _, _, _, _, _, _, rfl, ?_, hon.trans (hon2.of_alloc (fun k hk => (ho.lt k hk).2)), ?_, by omega, by omega, by omega, ?_⟩, ?_⟩
      · rw [cellsOf_append]
        have e4 : len + (k - (j - 1)) = len + (k - j) + 1 := by omega
        rw [e4]
        exact ho2
      · exact next_step (j := j - 1) (by rw [show j - 1 + 1 = j by omega]; exact HYS.out)
      · have := hon2.grown.size; simp at this; omega
      · simp [intOf]; omega
    · have hj0 : j = 1 := by omega
      subst hj0
      go_wp2_with (at_builtin; refine wpList_append_onto rfl (.tmp 11) (.tmp 14) _ rfl base 5 i0 _ 1 1 Try.underlying90 hi0 hz0 hz1 hz2 rfl (by omega) v' (len + (k - 1)) (cellsOf ys) rfl (ownsRow_alloc ho _) _ 1 _ rfl (sees_one _ _ _ _) (by simp [Value.oneCell']) (by simp only [maxLen]; omega) (by omega) (by simp; omega) ?_; intro v2 w2 ho2 hon2)
      simp only [Exit.jump]
      go_ret
      refine ⟨v2, rfl, ?_, hon.trans (hon2.of_alloc (fun k hk => (ho.lt k hk).2))⟩
      have e4 : len + k = len + (k - 1) + 1 := by omega
      have e5 := next_last HYS.out
      rw [e4, ← e5, cellsOf_append]
      exact ho2
  · intro hrest
    go_wp2_with (go_at_call 63; refine (may_yes _ (by omega) (by omega) _).mono ?_; rintro e w' ⟨rfl, rfl⟩)
    go_step3
    rename_i hK
    exact hK _ _ (hrest _ _ ⟨v, n, k, xs, _, _, _, _, _, _, _, _, _, _, _, _, _, _, _, _, rfl, by simpa using hown, Onto.refl _ _, rfl, h1, Nat.le_refl _, hn, hb⟩)
end Go.Proofs.Ytgjofinbdigmcaa.Pack
namespace Go.Proofs.Ytgjofinbdigmcaa.Pack
open Go.Proofs.Ytgjofinbdigmcaa.Mem
open Go.ChangeShapes Go.WideShapes Go.ChangeAt Go.RowKit
set_option linter.unusedVariables false

/- The first 65535 bytes of a string. -/
def cut (s : ByteArray) : ByteArray := if 65535 < s.size then s.extract 0 65535 else s
theorem strBytes_take (T : ByteArray) (j : Nat) (h : j < T.size) : (strBytes T).take (j + 1) = (strBytes T).take j ++ [((T[j]).toNat : Int)] := by
  have hl : j < (strBytes T).length := by rw [strBytes_length]; exact h
  rw [List.take_succ_eq_append_getElem hl]
  have e : (strBytes T)[j]'hl = ((T[j]).toNat : Int) := (List.getElem_map (f := fun b : UInt8 => (b.toNat : Int)) (l := T.data.toList) (i := j) (h := hl)).trans rfl
  rw [e]
theorem strBytes_all (T : ByteArray) {j : Nat} (h : ¬ j < T.size) : (strBytes T).take j = strBytes T := List.take_of_length_le (by rw [strBytes_length]; omega)
/- The state of PutText at its label: j bytes of the text are put. -/
def AtText (w : World) (v : Value) (base len : Nat) (xs : List Int) (T : ByteArray) (a' : Act) (w' : World) : Prop :=
  ∃ (v' : Value) (j : Nat) (u6 u7 u8 u9 u10 u11 u12 u13 u14 u15 u16 u17 u18 u19 u20 u21 u22 u23 u24 u25 u26 u27 u28 : Value), a' = { tmps := #[v', .string T, undef, undef, .slice none 0 0, .int .i64 (j : Int), u6, u7, u8, u9, u10, u11, u12, u13, u14, u15, u16, u17, u18, u19, u20, u21, u22, u23, u24, u25, u26, u27, u28], defers := [] } ∧ j ≤ T.size ∧
    w'.ownsRow base 5 1 v' (len + 2 + j) (cellsOf (xs ++ put T.size 2 ++ (strBytes T).take j)) ∧ Onto w w' v v' ∧ base ≤ w'.heap.size
set_option maxRecDepth 100000 in
set_option maxHeartbeats 1000000 in
theorem putText_any (s T : ByteArray) (hT : T = cut s) (v : Value) (len : Nat) (xs : List Int) (base : Nat) (w : World)
    (hown : w.ownsRow base 5 1 v len (cellsOf xs)) (hb : base ≤ w.heap.size) (hl : len ≤ 1073741824) (hs : s.size ≤ 140737488355328) :
    Calls Try.prog 54 #[v, .string s] w fun e w' => ∃ v', e = .returned v' ∧ w'.ownsRow base 5 1 v' (len + 2 + T.size) (cellsOf (xs ++ put T.size 2 ++ strBytes T)) ∧ Onto w w' v v' := by
  obtain ⟨i0, hi0, hz0, hz1, hz2⟩ := info_parts u8_info
  have HT := Lib.hid hT
  have hTs : T.size ≤ 65535 := by
    rw [hT, cut]
    split
    · rw [ByteArray.size_extract]; omega
    · omega
  clear hT
  go_enter Try.func54, Try.ntmps54
  go_wp2
  refine scope_label 0 (AtText w v base len xs T) (fun a' _ => T.size - (intOf (a'.tmps.getD 5 undef)).toNat) rfl ?_ ?_
  · rintro a' wr ⟨v', j, u6, u7, u8, u9, u10, u11, u12, u13, u14, u15, u16, u17, u18, u19, u20, u21, u22, u23, u24, u25, u26, u27, u28, rfl, hj, ho, hon, hbr⟩
    by_cases hlt : j < T.size
    · go_wp2_with (at_builtin; refine wpList_append_onto rfl (.tmp 20) (.tmp 24) _ rfl base 5 i0 _ 1 1 Try.underlying90 hi0 hz0 hz1 hz2 rfl (by omega) v' (len + 2 + j) (cellsOf (xs ++ put T.size 2 ++ (strBytes T).take j)) rfl (ownsRow_alloc ho _) _ 1 _ rfl (sees_one _ _ _ _) (by simp [Value.oneCell']) (by simp only [maxLen]; omega) (by omega) (by simp; omega) ?_; intro v2 w2 ho2 hon2)
      have e3 : (j : Int) + 1 = ((j + 1 : Nat) : Int) := by omega
      rw [e3]
      go_step3
      refine ⟨rfl, ⟨v2, j + 1, _, _, _, _, _, _, _, _, _, _, _, _, _, _, _, _, _, _, _, _, _, _, _, rfl, by omega, ?_, hon.trans (hon2.of_alloc (fun k hk => (ho.lt k hk).2)), ?_⟩, ?_⟩
      · rw [strBytes_take T j hlt, ← List.append_assoc, cellsOf_append (xs ++ put T.size 2 ++ (strBytes T).take j)]
        exact ho2
      · have := hon2.grown.size; simp at this; omega
      · simp [intOf]; omega
    · have hj0 : j = T.size := by omega
      rw [strBytes_all T hlt] at ho
      subst hj0
      go_wp2
      simp only [Exit.jump]
      go_ret
      exact ⟨_, rfl, ho, hon⟩
  · intro hrest
    have HR := Lib.hid hrest
    clear hrest
    by_cases h : 65535 < s.size
    · have hTe : T = s.extract 0 65535 := by rw [HT.out, cut, if_pos h]
      have hsz : T.size = min 65535 s.size := by rw [hTe, ByteArray.size_extract]; omega
      have HSZ := Lib.hid hsz
      have HTE := Lib.hid hTe
      clear hsz hTe
      go_wp2_with (go_at_call 52; refine (put_any (min 65535 s.size) (by omega) 2 (by omega) (by omega) v len xs base w hown hb hl).mono ?_; rintro e w1 ⟨v1, rfl, ho1, hon1⟩)
      go_step3
      rename_i hK
      refine hK _ _ (HR.out _ _ ?_)
      rw [← HTE.out]
      refine ⟨v1, 0, _, _, _, _, _, _, _, _, _, _, _, _, _, _, _, _, _, _, _, _, _, _, _, rfl, by omega, ?_, hon1, ?_⟩
      · rw [← HSZ.out] at ho1
        simpa using ho1
      · have := hon1.grown.size; omega
    · have hTe : T = s := by rw [HT.out, cut, if_neg h]
      subst hTe
      go_wp2_with (go_at_call 52; refine (put_any T.size (by omega) 2 (by omega) (by omega) v len xs base w hown hb hl).mono ?_; rintro e w1 ⟨v1, rfl, ho1, hon1⟩)
      go_step3
      rename_i hK
      refine hK _ _ (HR.out _ _ ?_)
      refine ⟨v1, 0, _, _, _, _, _, _, _, _, _, _, _, _, _, _, _, _, _, _, _, _, _, _, _, rfl, by omega, ?_, hon1, ?_⟩
      · simpa using ho1
      · have := hon1.grown.size; omega

theorem grown_onto {w w1 w2 : World} {v v1 : Value} (h : Onto w w1 v v1) (k : w1.grownBy w2 v1.ownBlock) : w.grownBy w2 v.ownBlock := by
  have hs := h.grown.size
  refine ⟨k.os.trans h.grown.os, k.tape.trans h.grown.tape, k.output.trans h.grown.output, Nat.le_trans hs k.size, fun i hi hne => ?_⟩
  refine (k.block i (by omega) (fun e => ?_)).trans (h.grown.block i hi hne)
  rcases h.own with h1 | h1
  · exact hne (e.trans h1)
  · have := h1 i e.symm; omega
end Go.Proofs.Ytgjofinbdigmcaa.Pack
namespace Go.Proofs.Ytgjofinbdigmcaa.Pack
open Go.Proofs.Ytgjofinbdigmcaa.Mem
open Go.ChangeShapes Go.WideShapes Go.ChangeAt Go.RowKit
set_option linter.unusedVariables false

/- A reader at block p, with bytes of block D: the bytes that are left, and whether it is short. -/
def Rd (w : World) (p D : Nat) (zs : List Int) (short : Bool) : Prop :=
  w.cell? ⟨p, 1, none⟩ = some (.bool short) ∧ w.frozen? ⟨p, 0, none⟩ = false ∧ w.frozen? ⟨p, 1, none⟩ = false ∧ zs.length ≤ 1073741824 ∧ Bytes zs ∧
  ((w.cell? ⟨p, 0, none⟩ = some (.slice none 0 0) ∧ zs = []) ∨
   ∃ off cap, D ≠ p ∧ w.cell? ⟨p, 0, none⟩ = some (.slice (some ⟨D, off, none⟩) zs.length cap) ∧ zs.length ≤ cap ∧ cap ≤ maxLen ∧ Row w (some ⟨D, off, none⟩) zs.length zs)
theorem Rd.but {S : Nat → Prop} {w w' : World} {p D : Nat} {zs : List Int} {short : Bool} (h : Rd w p D zs short) (hb : But S w w') (hp : ¬ S p) (hd : ¬ S D) : Rd w' p D zs short := by
  obtain ⟨h1, h2, h3, h4, h5, h6⟩ := h
  have hlt : p < w.heap.size := World.block_lt_of_cell? w ⟨p, 1, none⟩ h1
  have c0 := hb.cell (p := ⟨p, 0, none⟩) hlt hp
  have c1 := hb.cell (p := ⟨p, 1, none⟩) hlt hp
  refine ⟨c1.trans h1, (hb.frozen (p := ⟨p, 0, none⟩) hlt hp).trans h2, (hb.frozen (p := ⟨p, 1, none⟩) hlt hp).trans h3, h4, h5, ?_⟩
  rcases h6 with ⟨h6, h7⟩ | ⟨off, cap, hbp, hc, hl, hm, hr⟩
  · exact .inl ⟨c0.trans h6, h7⟩
  · exact .inr ⟨off, cap, hbp, c0.trans hc, hl, hm, hr.but hb (fun q hq hn => by injection hq with hq; subst hq; exact hd)⟩
theorem cell_ne {w : World} {a b : Addr} {v u : Value} (h : w.cell? b = some u) (hne : a ≠ b) : (w.setCell a v).cell? b = some u := (World.cell?_setCell_other _ _ _ _ hne).trans h
theorem row_setCell {w : World} {x : Option Addr} {len : Nat} {zs : List Int} (h : Row w x len zs) {p : Addr} (v : Value) (hp : ∀ q, x = some q → 0 < len → q.block ≠ p.block) : Row (w.setCell p v) x len zs :=
  h.but (S := fun k => k = p.block) ((But.refl (fun k => k = p.block) w).setCell (p := p) rfl v) (fun q hq hn => hp q hq hn)

theorem rd_short {w : World} {p D : Nat} {u0 u1 : Value} (h0 : w.cell? ⟨p, 0, none⟩ = some u0) (h1 : w.cell? ⟨p, 1, none⟩ = some u1) (h2 : w.frozen? ⟨p, 0, none⟩ = false) (h3 : w.frozen? ⟨p, 1, none⟩ = false) :
    Rd ((w.setCell ⟨p, 0, none⟩ (.slice none 0 0)).setCell ⟨p, 1, none⟩ (.bool true)) p D [] true := by
  refine ⟨?_, ?_, ?_, by simp, bytes_nil, .inl ⟨?_, rfl⟩⟩
  · exact World.cell?_setCell_same _ _ _ (cell_ne h1 (by simp))
  · rw [World.frozen?_setCell, World.frozen?_setCell]; exact h2
  · rw [World.frozen?_setCell, World.frozen?_setCell]; exact h3
  · exact cell_ne (World.cell?_setCell_same _ _ _ h0) (by simp)
theorem but_two (w : World) (p i j : Nat) (u v : Value) : But (fun b => b = p) w ((w.setCell ⟨p, i, none⟩ u).setCell ⟨p, j, none⟩ v) :=
  ((But.refl (fun b => b = p) w).setCell (p := ⟨p, i, none⟩) rfl u).setCell (p := ⟨p, j, none⟩) rfl v
theorem but_one (w : World) (p i : Nat) (u : Value) : But (fun b => b = p) w (w.setCell ⟨p, i, none⟩ u) :=
  (But.refl (fun b => b = p) w).setCell (p := ⟨p, i, none⟩) rfl u
theorem rd_taken {w : World} {p : Nat} {zs : List Int} {short : Bool} {b off cap k : Nat} (h0 : w.cell? ⟨p, 0, none⟩ = some (.slice (some ⟨b, off, none⟩) zs.length cap)) (h1 : w.cell? ⟨p, 1, none⟩ = some (.bool short)) (h2 : w.frozen? ⟨p, 0, none⟩ = false) (h3 : w.frozen? ⟨p, 1, none⟩ = false)
    (h4 : zs.length ≤ 1073741824) (h5 : Bytes zs) (hbp : b ≠ p) (hl : zs.length ≤ cap) (hm : cap ≤ maxLen) (hr : Row w (some ⟨b, off, none⟩) zs.length zs) (hk : k ≤ zs.length) (off' : Nat) (ho : k < zs.length → off' = off + k) (len' cap' : Nat) (hlen : len' = zs.length - k) (hc1 : zs.length - k ≤ cap') (hc2 : cap' ≤ maxLen) :
    Rd (w.setCell ⟨p, 0, none⟩ (.slice (some ⟨b, off', none⟩) len' cap')) p b (zs.drop k) short ∧ Row (w.setCell ⟨p, 0, none⟩ (.slice (some ⟨b, off', none⟩) len' cap')) (some ⟨b, off, none⟩) (zs.take k).length (zs.take k) := by
  subst hlen
  have hdl : (zs.drop k).length = zs.length - k := by simp
  have htl : (zs.take k).length = k := by rw [List.length_take]; omega
  have hrow : Row (w.setCell ⟨p, 0, none⟩ (.slice (some ⟨b, off', none⟩) (zs.length - k) cap')) (some ⟨b, off, none⟩) zs.length zs := row_setCell hr _ (fun q hq _ => by injection hq with hq; subst hq; exact hbp)
  refine ⟨⟨cell_ne h1 (by simp), by rw [World.frozen?_setCell]; exact h2, by rw [World.frozen?_setCell]; exact h3, by omega, bytes_drop h5 k, .inr ⟨off', cap', hbp, ?_, by omega, hc2, ?_⟩⟩, ?_⟩
  · rw [hdl]; exact World.cell?_setCell_same _ _ _ h0
  · refine ⟨rfl, bytes_drop h5 k, fun hn => ?_⟩
    rw [hdl] at hn
    obtain ⟨b', o', hq, hlt, hc⟩ := hrow.2.2 (by omega)
    injection hq with hq
    injection hq with hq1 hq2
    subst hq1 hq2
    refine ⟨b, off', rfl, hlt, fun i hi => ?_⟩
    rw [hdl] at hi
    have e := hc (k + i) (by omega)
    rw [← Nat.add_assoc, ← ho (by omega)] at e
    rw [e]
    simp [List.getD, List.getElem?_drop]
  · refine ⟨rfl, bytes_take h5 k, fun hn => ?_⟩
    rw [htl] at hn
    obtain ⟨b', o', hq, hlt, hc⟩ := hrow.2.2 (by omega)
    injection hq with hq
    injection hq with hq1 hq2
    subst hq1 hq2
    refine ⟨b, off, rfl, hlt, fun i hi => ?_⟩
    rw [htl] at hi
    rw [hc i (by omega)]
    simp [List.getD, hi]

theorem or_step {ys : List Int} {j c k : Nat} (hb : Bytes ys) (hl : ys.length = k) (hj : j < k) (hk : k ≤ 8) (hc : c < 256) (hce : ys.getD j 0 = (c : Int)) :
    bits .or .u64 ((num (ys.take j) : Nat) : Int) (IntKind.u64.wrap ((c : Int) * 2 ^ (8 * j))) = ((num (ys.take (j + 1)) : Nat) : Int) := by
  have hp : (2 : Nat) ^ (8 * j) = 256 ^ j := by rw [Nat.pow_mul]
  have h1 : num (ys.take j) < 256 ^ j := by
    have := num_lt (bytes_take hb j)
    rwa [List.length_take, Nat.min_eq_left (by omega)] at this
  have h7 : 256 ^ j * 256 ≤ 256 ^ 8 := by rw [← Nat.pow_succ]; exact pow256_le (by omega)
  have h8 : (256 : Nat) ^ 8 = 18446744073709551616 := by decide
  have h9 : c * 256 ^ j + 256 ^ j ≤ 256 ^ j * 256 := by
    rw [Nat.mul_comm c, ← Nat.mul_succ]
    exact Nat.mul_le_mul_left _ hc
  have e1 : (c : Int) * 2 ^ (8 * j) = ((c * 256 ^ j : Nat) : Int) := by rw [← hp]; simp
  rw [e1, IntKind.wrap_u64]
  have e2 : ((c * 256 ^ j : Nat) : Int) % 18446744073709551616 = ((c * 256 ^ j : Nat) : Int) := by omega
  rw [e2, u64_or_nat _ _ (by omega) (by omega), num_snoc ys j (by omega), hce]
  congr 1
  rw [Nat.or_comm, ← hp, ← Nat.shiftLeft_eq, ← Nat.shiftLeft_add_eq_or_of_lt (by rw [hp]; exact h1), Nat.shiftLeft_eq, Int.toNat_natCast, Nat.mul_comm, Nat.add_comm]
/- What Text tells, and leaves. -/
def textLen (zs : List Int) : Nat := num (got zs 2)
def textGot (zs : List Int) : List Int := got (left zs 2) (textLen zs)
def textLeft (zs : List Int) : List Int := left (left zs 2) (textLen zs)
def textShort (zs : List Int) (s : Bool) : Bool := shortBy (left zs 2) (textLen zs) (shortBy zs 2 s)
end Go.Proofs.Ytgjofinbdigmcaa.Pack
namespace Go.Proofs.Ytgjofinbdigmcaa.Pack
open Go.Proofs.Ytgjofinbdigmcaa.Mem
open Go.ChangeShapes Go.WideShapes Go.ChangeAt Go.RowKit
set_option linter.unusedVariables false

/- The reference's reader at block q, with the bytes that are left. -/
def Rf (w : World) (q bd : Nat) (zs : List Int) (short : Bool) : Prop :=
  ∃ (B : List Int) (at' : Nat) (a : Option Addr) (cap : Nat), w.cell? ⟨q, 0, none⟩ = some (.slice a B.length cap) ∧ w.cell? ⟨q, 1, none⟩ = some (.int .i64 (at' : Int)) ∧ w.cell? ⟨q, 2, none⟩ = some (.bool short) ∧
    w.frozen? ⟨q, 1, none⟩ = false ∧ w.frozen? ⟨q, 2, none⟩ = false ∧ Row w a B.length B ∧ B.length ≤ cap ∧ cap ≤ maxLen ∧ B.length ≤ 1073741824 ∧ at' ≤ B.length ∧ (∀ p, a = some p → 0 < B.length → p.block ≠ q ∧ p.block < bd) ∧
    (a = none → cap = 0) ∧ ((short = true ∧ zs = []) ∨ (short = false ∧ zs = B.drop at'))

theorem num_round {zs : List Int} {k j : Nat} (hk : k ≤ 8) (hl : zs.length = k) (hb : Bytes zs) (hj : j + 1 ≤ k) : 256 * num (zs.drop (j + 1)) + (zs.getD j 0).toNat = num (zs.drop j) ∧ num (zs.drop j) < 18446744073709551616 := by
  refine ⟨by rw [num_cons zs j (by omega)]; omega, ?_⟩
  have h1 := num_lt (bytes_drop hb j)
  have h2 : 256 ^ (zs.drop j).length ≤ 256 ^ 8 := pow256_le (by simp; omega)
  have h3 : (256 : Nat) ^ 8 = 18446744073709551616 := by decide
  omega
theorem rf_step {w : World} {q bd : Nat} {B : List Int} {at1 at' : Nat} {a : Option Addr} {cap : Nat} (m : Nat) (h0 : w.cell? ⟨q, 0, none⟩ = some (.slice a B.length cap)) (h1 : w.cell? ⟨q, 1, none⟩ = some (.int .i64 (at1 : Int))) (h2 : w.cell? ⟨q, 2, none⟩ = some (.bool false))
    (f1 : w.frozen? ⟨q, 1, none⟩ = false) (f2 : w.frozen? ⟨q, 2, none⟩ = false) (hr : Row w a B.length B) (hlc : B.length ≤ cap) (hcm : cap ≤ maxLen) (hB : B.length ≤ 1073741824) (hat : at' ≤ B.length) (hne : ∀ p, a = some p → 0 < B.length → p.block ≠ q ∧ p.block < bd) (hnil : a = none → cap = 0) :
    Rf ((w.drewN m).setCell ⟨q, 1, none⟩ (.int .i64 (at' : Int))) q bd (B.drop at') false := by
  have hd : Row (w.drewN m) a B.length B := hr.but (S := fun _ => False) ((But.refl _ w).drewN m) (fun _ _ _ h => h)
  exact ⟨B, at', a, cap, cell_ne (w := w.drewN m) h0 (by simp), World.cell?_setCell_same (w.drewN m) _ _ h1, cell_ne (w := w.drewN m) h2 (by simp), by rw [World.frozen?_setCell]; exact f1, by rw [World.frozen?_setCell]; exact f2,
    row_setCell hd _ (fun p hp hn => (hne p hp hn).1), hlc, hcm, hB, hat, hne, hnil, .inr ⟨rfl, rfl⟩⟩
theorem rf_short {w : World} {q bd : Nat} {B : List Int} {at' : Nat} {a : Option Addr} {cap : Nat} {u : Value} (m : Nat) (h0 : w.cell? ⟨q, 0, none⟩ = some (.slice a B.length cap)) (h1 : w.cell? ⟨q, 1, none⟩ = some (.int .i64 (at' : Int))) (h2 : w.cell? ⟨q, 2, none⟩ = some u)
    (f1 : w.frozen? ⟨q, 1, none⟩ = false) (f2 : w.frozen? ⟨q, 2, none⟩ = false) (hr : Row w a B.length B) (hlc : B.length ≤ cap) (hcm : cap ≤ maxLen) (hB : B.length ≤ 1073741824) (hat : at' ≤ B.length) (hne : ∀ p, a = some p → 0 < B.length → p.block ≠ q ∧ p.block < bd) (hnil : a = none → cap = 0) :
    Rf ((w.drewN m).setCell ⟨q, 2, none⟩ (.bool true)) q bd [] true := by
  have hd : Row (w.drewN m) a B.length B := hr.but (S := fun _ => False) ((But.refl _ w).drewN m) (fun _ _ _ h => h)
  exact ⟨B, at', a, cap, cell_ne (w := w.drewN m) h0 (by simp), cell_ne (w := w.drewN m) h1 (by simp), World.cell?_setCell_same (w.drewN m) _ _ h2, by rw [World.frozen?_setCell]; exact f1, by rw [World.frozen?_setCell]; exact f2,
    row_setCell hd _ (fun p hp hn => (hne p hp hn).1), hlc, hcm, hB, hat, hne, hnil, .inl ⟨rfl, rfl⟩⟩
end Go.Proofs.Ytgjofinbdigmcaa.Pack
namespace Go.Proofs.Ytgjofinbdigmcaa.Pack
open Go.Proofs.Ytgjofinbdigmcaa.Mem
open Go.ChangeShapes Go.WideShapes Go.ChangeAt Go.RowKit
set_option linter.unusedVariables false

theorem Rf.but {S : Nat → Prop} {w w' : World} {q bd : Nat} {zs : List Int} {short : Bool} (h : Rf w q bd zs short) (hb : But S w w') (hq : ¬ S q) (hd : ∀ k, k < bd → ¬ S k) : Rf w' q bd zs short := by
  obtain ⟨B, at', a, cap, h0, h1, h2, f1, f2, hr, hlc, hcm, hB, hat, hne, hnil, hz⟩ := h
  have hlt : q < w.heap.size := World.block_lt_of_cell? w ⟨q, 1, none⟩ h1
  exact ⟨B, at', a, cap, (hb.cell (p := ⟨q, 0, none⟩) hlt hq).trans h0, (hb.cell (p := ⟨q, 1, none⟩) hlt hq).trans h1, (hb.cell (p := ⟨q, 2, none⟩) hlt hq).trans h2, (hb.frozen (p := ⟨q, 1, none⟩) hlt hq).trans f1, (hb.frozen (p := ⟨q, 2, none⟩) hlt hq).trans f2,
    hr.but hb (fun p hp hn => hd _ (hne p hp hn).2), hlc, hcm, hB, hat, hne, hnil, hz⟩
end Go.Proofs.Ytgjofinbdigmcaa.Pack
namespace Go.Proofs.Ytgjofinbdigmcaa.Pack
open Go.Proofs.Ytgjofinbdigmcaa.Mem
open Go.ChangeShapes Go.WideShapes Go.ChangeAt Go.RowKit
set_option linter.unusedVariables false

theorem Rd.below {w w' : World} {p D : Nat} {zs : List Int} {short : Bool} (h : Rd w p D zs short) (hb : Below w.heap.size w w') : Rd w' p D zs short := by
  refine h.but (S := fun _ => False) ((But.of_below hb).mono (fun i hi hs => by omega)) (fun h => h) (fun h => h)
theorem Rf.below {w w' : World} {q bd : Nat} {zs : List Int} {short : Bool} (h : Rf w q bd zs short) (hb : Below w.heap.size w w') : Rf w' q bd zs short := by
  refine h.but (S := fun _ => False) ((But.of_below hb).mono (fun i hi hs => by omega)) (fun h => h) (fun _ _ h => h)
theorem quiet_same {P : Program} {f : FuncId} {args : Array Value} {w : World} {n : Nat} {v : Value} (h : Calls P f args (w.drewN n) fun e w' => e = .returned v ∧ w.drewN n = w') : Calls P f args (w.drewN n) fun e w'' => e = .returned v ∧ ∃ m, w'' = w.drewN m :=
  h.mono fun _ _ h => ⟨h.1, n, h.2.symm⟩
theorem Row.drewN {w : World} {a : Option Addr} {len : Nat} {zs : List Int} (h : Row w a len zs) (n : Nat) : Row (w.drewN n) a len zs := h.but (S := fun _ => False) ((But.refl _ w).drewN n) (fun _ _ _ h => h)
theorem Rd.drewN {w : World} {p D : Nat} {zs : List Int} {short : Bool} (h : Rd w p D zs short) (n : Nat) : Rd (w.drewN n) p D zs short := h.but (S := fun _ => False) ((But.refl _ w).drewN n) (fun h => h) (fun h => h)
theorem Rf.drewN {w : World} {q bd : Nat} {zs : List Int} {short : Bool} (h : Rf w q bd zs short) (n : Nat) : Rf (w.drewN n) q bd zs short := h.but (S := fun _ => False) ((But.refl _ w).drewN n) (fun h => h) (fun _ _ h => h)
theorem Rf.short {w : World} {q bd : Nat} {zs : List Int} {short : Bool} (h : Rf w q bd zs short) : w.cell? ⟨q, 2, none⟩ = some (.bool short) := by
  obtain ⟨B, at', a, cap, h0, h1, h2, _⟩ := h
  exact h2
theorem rf_new (w : World) (a : Option Addr) (zs : List Int) (cap : Nat) (hr : Row w a zs.length zs) (hlc : zs.length ≤ cap) (hcm : cap ≤ maxLen) (hB : zs.length ≤ 1073741824) (hnil : a = none → cap = 0) (bd : Nat) (hbd : ∀ x, a = some x → 0 < zs.length → x.block < bd) (t : TypeId) :
    Rf (w.alloc (.cells #[.slice a zs.length cap, .int .i64 0, .bool false] t)) w.heap.size bd zs false := by
  refine ⟨zs, 0, a, cap, ?_, ?_, ?_, ?_, ?_, hr.below ((Below.refl _ _).alloc (Nat.le_refl _) _), hlc, hcm, hB, Nat.zero_le _, ?_, hnil, .inr ⟨rfl, rfl⟩⟩
  · rw [World.cell?_alloc_at _ _ _ _ rfl]; rfl
  · rw [World.cell?_alloc_at _ _ _ _ rfl]; rfl
  · rw [World.cell?_alloc_at _ _ _ _ rfl]; rfl
  · rw [World.frozen?_alloc_at _ _ _ _ rfl]
  · rw [World.frozen?_alloc_at _ _ _ _ rfl]
  · intro p hp hn
    obtain ⟨b, off, he, hlt, _⟩ := hr.2.2 hn
    rw [hp] at he
    injection he with he
    subst he
    exact ⟨Nat.ne_of_lt hlt, hbd _ hp hn⟩
theorem got_front {xs : List Int} (ys : List Int) {k : Nat} (h : xs.length = k) : got (xs ++ ys) k = xs := by
  subst h
  unfold got
  rw [if_pos (by simp)]
  exact List.take_left
theorem left_front {xs : List Int} (ys : List Int) {k : Nat} (h : xs.length = k) : left (xs ++ ys) k = ys := by
  subst h
  unfold left
  rw [if_pos (by simp)]
  exact List.drop_left
theorem short_front {xs : List Int} (ys : List Int) {k : Nat} (h : xs.length = k) (s : Bool) : shortBy (xs ++ ys) k s = s := by
  subst h
  exact if_pos (by simp)
/- What was put as a text is read as it was. -/
theorem textLen_front (s : ByteArray) (hs : s.size ≤ 65535) (ys : List Int) : textLen (put s.size 2 ++ (strBytes s ++ ys)) = s.size := by
  unfold textLen
  rw [got_front _ (put_length _ _), num_put]
  exact Nat.mod_eq_of_lt (by omega)
theorem textGot_front (s : ByteArray) (hs : s.size ≤ 65535) (ys : List Int) : textGot (put s.size 2 ++ (strBytes s ++ ys)) = strBytes s := by
  unfold textGot
  rw [textLen_front s hs, left_front _ (put_length _ _), got_front _ (strBytes_length s)]
theorem textLeft_front (s : ByteArray) (hs : s.size ≤ 65535) (ys : List Int) : textLeft (put s.size 2 ++ (strBytes s ++ ys)) = ys := by
  unfold textLeft
  rw [textLen_front s hs, left_front _ (put_length _ _), left_front _ (strBytes_length s)]
theorem textShort_front (s : ByteArray) (hs : s.size ≤ 65535) (ys : List Int) (b : Bool) : textShort (put s.size 2 ++ (strBytes s ++ ys)) b = b := by
  unfold textShort
  rw [textLen_front s hs, left_front _ (put_length _ _), short_front _ (strBytes_length s), short_front _ (put_length _ _)]
/- A part of a row is a row. -/
theorem Row.part {w : World} {b off len : Nat} {zs : List Int} (h : Row w (some ⟨b, off, none⟩) len zs) (i k : Nat) (hik : i + k ≤ len) (a : Option Addr) (ha : 0 < k → a = some ⟨b, off + i, none⟩) : Row w a k ((zs.drop i).take k) := by
  have hl : ((zs.drop i).take k).length = k := by rw [List.length_take, List.length_drop, h.1]; omega
  refine ⟨hl, bytes_take (bytes_drop h.2.1 i) k, fun h0 => ?_⟩
  obtain ⟨b', o, hq, hlt, hc⟩ := h.2.2 (by omega)
  injection hq with hq
  injection hq with hq1 hq2
  subst hq1 hq2
  refine ⟨b, off + i, ha h0, hlt, fun j hj => ?_⟩
  have := hc (i + j) (by omega)
  rw [← Nat.add_assoc] at this
  rw [this]
  simp [List.getD, List.getElem?_drop, hj]
end Go.Proofs.Ytgjofinbdigmcaa.Pack

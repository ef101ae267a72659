/- The bytes of tokens, quotas, flags: the walks of command's own calls. -/
import Derived.Test.YtbdbbnpkekcefaaCmdMem
namespace Go.Proofs.Ytbdbbnpkekcefaa.Cmd
open Go.Proofs.Ytbdbbnpkekcefaa.Mem Go.Proofs.Ytbdbbnpkekcefaa.Pack
open Go.ChangeShapes Go.WideShapes Go.ChangeAt Go.RowKit
set_option linter.unusedVariables false
set_option linter.unusedSimpArgs false

theorem putFlag_any (b : Bool) (v : Value) (len : Nat) (xs : List Int) (base : Nat) (w : World)
    (hown : w.ownsRow base 5 1 v len (cellsOf xs)) (hb : base ≤ w.heap.size) (hl : len ≤ 1073741824) :
    Calls Try.prog 55 #[v, .bool b] w fun e w' => ∃ v', e = .returned v' ∧ w'.ownsRow base 5 1 v' (len + 1) (cellsOf (xs ++ flag b)) ∧ Onto w w' v v' := by
  cases b
  · go_enter Try.func55, Try.ntmps55
    go_wp2_with fail
    refine (put_any 0 (by omega) 1 (by omega) (by omega) v len xs base w hown hb hl).mono ?_
    rintro e w1 ⟨v1, rfl, ho, hon⟩
    go_wp2_with fail
    go_ret
    exact ⟨_, rfl, ho, hon⟩
  · go_enter Try.func55, Try.ntmps55
    go_wp2_with fail
    refine (put_any 1 (by omega) 1 (by omega) (by omega) v len xs base w hown hb hl).mono ?_
    rintro e w1 ⟨v1, rfl, ho, hon⟩
    go_wp2_with fail
    go_ret
    exact ⟨_, rfl, ho, hon⟩
theorem putMeasure_any (z : Int) (v : Value) (len : Nat) (xs : List Int) (base : Nat) (w : World)
    (hown : w.ownsRow base 5 1 v len (cellsOf xs)) (hb : base ≤ w.heap.size) (hl : len ≤ 1073741824) :
    Calls Try.prog 60 #[v, .int .i64 z] w fun e w' => ∃ v', e = .returned v' ∧ w'.ownsRow base 5 1 v' (len + 8) (cellsOf (xs ++ put (u64 z) 8)) ∧ Onto w w' v v' := by
  have hw := wrap_u64 z
  have hlt := u64_lt z
  go_enter Try.func60, Try.ntmps60
  go_wp2_with fail
  refine (put_any (u64 z) hlt 8 (by omega) (by omega) v len xs base w hown hb hl).mono ?_
  rintro e w1 ⟨v1, rfl, ho, hon⟩
  go_wp2_with fail
  go_ret
  exact ⟨_, rfl, ho, hon⟩
set_option maxRecDepth 100000 in
set_option maxHeartbeats 2000000 in
theorem putToken_any (t : Tok) (ht : TokSo t) (v : Value) (len : Nat) (xs : List Int) (base : Nat) (w : World)
    (hown : w.ownsRow base 5 1 v len (cellsOf xs)) (hb : base ≤ w.heap.size) (hl : len ≤ 1000000000) :
    Calls Try.prog 52 #[v, tv t] w fun e w' => ∃ v', e = .returned v' ∧ w'.ownsRow base 5 1 v' (len + 17) (cellsOf (xs ++ putTok t)) ∧ Onto w w' v v' := by
  obtain ⟨b, g, sr, x⟩ := t
  obtain ⟨hb', hg, hs, hx⟩ := ht
  simp only at hb' hg hs hx
  have hw := wrap_u64 b
  have hlt := u64_lt b
  have hw2 := wrap_u64_nat (n := g) (by omega)
  have hw3 := wrap_u64_nat (n := sr) (by omega)
  have hg0 := Going.start #[.int .i64 b, .int .u32 (g : Int), .int .u32 (sr : Int), .int .u64 (x : Int)] 29 hown hb
  have HOWN := Lib.hid hown
  clear hown
  unfold tv
  go_enter Try.func52, Try.ntmps52
  go_wp2_with fail
  refine (put_any (u64 b) hlt 1 (by omega) (by omega) v _ xs base _ hg0.own hg0.size (by omega)).mono ?_
  rintro e w1 ⟨v1, rfl, ho, hon⟩
  have hg1 := hg0.step ho hon
  have c1 := hg1.cell 1 rfl
  clear ho hon hg0
  go_wp2_with fail
  refine (put_any g (by omega) 4 (by omega) (by omega) v1 _ _ base _ hg1.own hg1.size (by omega)).mono ?_
  rintro e w2 ⟨v2, rfl, ho, hon⟩
  have hg2 := hg1.step ho hon
  have c2 := hg2.cell 2 rfl
  clear ho hon hg1 c1
  go_wp2_with fail
  refine (put_any sr (by omega) 4 (by omega) (by omega) v2 _ _ base _ hg2.own hg2.size (by omega)).mono ?_
  rintro e w3 ⟨v3, rfl, ho, hon⟩
  have hg3 := hg2.step ho hon
  have c3 := hg3.cell 3 rfl
  clear ho hon hg2 c2
  go_wp2_with fail
  refine (put_any x (by omega) 8 (by omega) (by omega) v3 _ _ base _ hg3.own hg3.size (by omega)).mono ?_
  rintro e w4 ⟨v4, rfl, ho, hon⟩
  have hg4 := hg3.step ho hon
  clear ho hon hg3 c3
  go_wp2_with fail
  go_ret
  exact ⟨_, rfl, row_eq hg4.own (by omega) (by simp [putTok]), hg4.onto⟩
set_option maxRecDepth 100000 in
set_option maxHeartbeats 2000000 in
theorem putQuota_any (q : Quo) (v : Value) (len : Nat) (xs : List Int) (base : Nat) (w : World)
    (hown : w.ownsRow base 5 1 v len (cellsOf xs)) (hb : base ≤ w.heap.size) (hl : len ≤ 1000000000) :
    Calls Try.prog 51 #[v, qv q] w fun e w' => ∃ v', e = .returned v' ∧ w'.ownsRow base 5 1 v' (len + 24) (cellsOf (xs ++ putQuo q)) ∧ Onto w w' v v' := by
  obtain ⟨k, b, g⟩ := q
  have hg0 := Going.start #[.int .i64 k, .int .i64 b, .int .i64 g] 26 hown hb
  have HOWN := Lib.hid hown
  clear hown
  unfold qv
  go_enter Try.func51, Try.ntmps51
  go_wp2_with fail
  refine (putMeasure_any k v _ xs base _ hg0.own hg0.size (by omega)).mono ?_
  rintro e w1 ⟨v1, rfl, ho, hon⟩
  have hg1 := hg0.step ho hon
  have c1 := hg1.cell 1 rfl
  clear ho hon hg0
  go_wp2_with fail
  refine (putMeasure_any b v1 _ _ base _ hg1.own hg1.size (by omega)).mono ?_
  rintro e w2 ⟨v2, rfl, ho, hon⟩
  have hg2 := hg1.step ho hon
  have c2 := hg2.cell 2 rfl
  clear ho hon hg1 c1
  go_wp2_with fail
  refine (putMeasure_any g v2 _ _ base _ hg2.own hg2.size (by omega)).mono ?_
  rintro e w3 ⟨v3, rfl, ho, hon⟩
  have hg3 := hg2.step ho hon
  clear ho hon hg2 c2
  go_wp2_with fail
  go_ret
  exact ⟨_, rfl, row_eq hg3.own (by omega) (by simp [putQuo]), hg3.onto⟩
def opLen (tag : Int) (o : Op) : Nat := (putOp tag o).length
theorem putOp_le (tag : Int) (o : Op) : (putOp tag o).length ≤ 20 + o.key.size + o.val.size := by
  unfold putOp
  rw [List.length_append, text_length]
  split
  · simp; omega
  · rw [List.length_append, put_length]
    split
    · simp; omega
    · rw [List.length_append, put_length, text_length]; omega
/- The bytes of an op, behind any; its texts are short. -/
set_option maxRecDepth 100000 in
set_option maxHeartbeats 2000000 in
theorem putOp_any (tag : Int) (o : Op) (hi : OpIs o) (hk : o.key.size ≤ 65535) (hv : o.val.size ≤ 65535) (v : Value) (len : Nat) (xs : List Int) (base : Nat) (w : World)
    (hown : w.ownsRow base 5 1 v len (cellsOf xs)) (hb : base ≤ w.heap.size) (hl : len ≤ 1000000000) :
    Calls Try.prog 65 #[v, .int .i64 tag, ov o] w fun e w' => ∃ v', e = .returned v' ∧ w'.ownsRow base 5 1 v' (len + (putOp tag o).length) (cellsOf (xs ++ putOp tag o)) ∧ Onto w w' v v' := by
  obtain ⟨del, key, val, cond, ttl⟩ := o
  obtain ⟨hc, ht⟩ := hi
  simp only at hc ht hk hv
  have hg0 := Going.start #[.bool del, .string key, .string val, .int .u64 (cond : Int), .int .u64 (ttl : Int)] 87 hown hb
  have HOWN := Lib.hid hown
  clear hown
  unfold ov
  by_cases h7 : tag = 7
  · subst h7
    go_enter Try.func65, Try.ntmps65
    go_wp2_with fail
    refine (text_onto key hk v _ xs base _ hg0.own hg0.size (by omega)).mono ?_
    rintro e w1 ⟨v1, rfl, ho, hon⟩
    have hg1 := hg0.step ho hon
    clear ho hon hg0
    go_wp2_with fail
    go_ret
    exact ⟨_, rfl, row_eq hg1.own (by simp [putOp, text_length]; omega) (by simp [putOp]), hg1.onto⟩
  have h7' : (tag == 7) = false := beq_eq_false_iff_ne.2 h7
  cases del
  · go_enter Try.func65, Try.ntmps65
    go_wp2_with fail
    refine (text_onto key hk v _ xs base _ hg0.own hg0.size (by omega)).mono ?_
    rintro e w1 ⟨v1, rfl, ho, hon⟩
    have hg1 := hg0.step ho hon
    have c3 := hg1.cell 3 rfl
    clear ho hon hg0
    go_wp2_with fail
    refine (put_any cond hc 8 (by omega) (by omega) v1 _ _ base _ hg1.own hg1.size (by omega)).mono ?_
    rintro e w2 ⟨v2, rfl, ho, hon⟩
    have hg2 := hg1.step ho hon
    have c0 := hg2.cell 0 rfl
    have c2 := hg2.cell 2 rfl
    clear ho hon hg1 c3
    go_wp2_with fail
    refine (text_onto val hv v2 _ _ base _ hg2.own hg2.size (by omega)).mono ?_
    rintro e w3 ⟨v3, rfl, ho, hon⟩
    have hg3 := hg2.step ho hon
    have c4 := hg3.cell 4 rfl
    clear ho hon hg2 c0 c2
    go_wp2_with fail
    refine (put_any ttl ht 8 (by omega) (by omega) v3 _ _ base _ hg3.own hg3.size (by omega)).mono ?_
    rintro e w4 ⟨v4, rfl, ho, hon⟩
    have hg4 := hg3.step ho hon
    clear ho hon hg3 c4
    go_wp2_with fail
    go_ret
    exact ⟨_, rfl, row_eq hg4.own (by simp [putOp, h7, text_length, put_length]; omega) (by simp [putOp, h7]), hg4.onto⟩
  · go_enter Try.func65, Try.ntmps65
    go_wp2_with fail
    refine (text_onto key hk v _ xs base _ hg0.own hg0.size (by omega)).mono ?_
    rintro e w1 ⟨v1, rfl, ho, hon⟩
    have hg1 := hg0.step ho hon
    have c3 := hg1.cell 3 rfl
    clear ho hon hg0
    go_wp2_with fail
    refine (put_any cond hc 8 (by omega) (by omega) v1 _ _ base _ hg1.own hg1.size (by omega)).mono ?_
    rintro e w2 ⟨v2, rfl, ho, hon⟩
    have hg2 := hg1.step ho hon
    have c0 := hg2.cell 0 rfl
    clear ho hon hg1 c3
    go_wp2_with fail
    go_ret
    exact ⟨_, rfl, row_eq hg2.own (by simp [putOp, h7, text_length, put_length]; omega) (by simp [putOp, h7]), hg2.onto⟩
end Go.Proofs.Ytbdbbnpkekcefaa.Cmd

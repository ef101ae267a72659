/- In one text: The bytes of a record: the walks of record.put. The bytes of a record: the walks of record.put, a kind each. The bytes of a record: the walks of record.put, a kind each. The bytes of a record: the walks of record.put, a kind each. -/
import Derived.Test.YtgjofinbdigmcaaRecA
namespace Go.Proofs.Ytgjofinbdigmcaa.Rec
open Go.Proofs.Ytgjofinbdigmcaa.Mem Go.Proofs.Ytgjofinbdigmcaa.Pack
open Go.ChangeShapes Go.WideShapes Go.ChangeAt Go.RowKit
set_option linter.unusedVariables false

set_option maxRecDepth 100000 in
set_option maxHeartbeats 1000000 in
theorem putQuota_any (q1 q2 q3 : Nat) (h1 : q1 < 18446744073709551616) (h2 : q2 < 18446744073709551616) (h3 : q3 < 18446744073709551616) (v : Value) (len : Nat) (xs : List Int) (base : Nat) (w : World)
    (hown : w.ownsRow base 5 1 v len (cellsOf xs)) (hb : base ≤ w.heap.size) (hl : len ≤ 1000000000) :
    Calls Try.prog 53 #[v, .agg #[.int .i64 (q1 : Int), .int .i64 (q2 : Int), .int .i64 (q3 : Int)]] w fun e w' => ∃ v', e = .returned v' ∧ w'.ownsRow base 5 1 v' (len + 8 + 8 + 8) (cellsOf (xs ++ put q1 8 ++ put q2 8 ++ put q3 8)) ∧ Onto w w' v v' := by
  have i0 : ∀ w : World, (Instr.index 103 (.agg #[.int .i64 (q1 : Int), .int .i64 (q2 : Int), .int .i64 (q3 : Int)]) (.int .i64 0)).run Try.prog w = .ok (.int .i64 (q1 : Int)) w := fun _ => by kernel_rfl
  have i1 : ∀ w : World, (Instr.index 103 (.agg #[.int .i64 (q1 : Int), .int .i64 (q2 : Int), .int .i64 (q3 : Int)]) (.int .i64 1)).run Try.prog w = .ok (.int .i64 (q2 : Int)) w := fun _ => by kernel_rfl
  have i2 : ∀ w : World, (Instr.index 103 (.agg #[.int .i64 (q1 : Int), .int .i64 (q2 : Int), .int .i64 (q3 : Int)]) (.int .i64 2)).run Try.prog w = .ok (.int .i64 (q3 : Int)) w := fun _ => by kernel_rfl
  go_enter Try.func53, Try.ntmps53
  go_wp2
  refine wp_loop_rounds 4 ?_
  rw [rounds_succ]
  go_wp2_with fail
  refine (put_any q1 h1 8 (by omega) (by omega) v len xs base _ (ownsRow_alloc hown _) (by first | omega | (simp; omega)) (by omega)).mono ?_
  rintro e w1 ⟨v1, rfl, ho1, hon1⟩
  have hs1 := hon1.grown.size
  try simp only [World.size_alloc] at hs1
  go_wp2_with fail
  rw [rounds_succ]
  go_wp2_with fail
  refine (put_any q2 h2 8 (by omega) (by omega) v1 (len + 8) (xs ++ put q1 8) base _ ho1 (by first | omega | (simp; omega)) (by omega)).mono ?_
  rintro e w2 ⟨v2, rfl, ho2, hon2⟩
  have hs2 := hon2.grown.size
  try simp only [World.size_alloc] at hs2
  go_wp2_with fail
  rw [rounds_succ]
  go_wp2_with fail
  refine (put_any q3 h3 8 (by omega) (by omega) v2 (len + 8 + 8) (xs ++ put q1 8 ++ put q2 8) base _ ho2 (by first | omega | (simp; omega)) (by omega)).mono ?_
  rintro e w3 ⟨v3, rfl, ho3, hon3⟩
  have hs3 := hon3.grown.size
  try simp only [World.size_alloc] at hs3
  go_wp2_with fail
  rw [rounds_succ]
  go_wp2_with fail
  go_ret
  exact ⟨_, rfl, ho3, ((hon1.of_alloc (fun k hk => (hown.lt k hk).2)).trans hon2).trans hon3⟩
/- What a call that puts a record behind a row answers. -/
def Puts (base : Nat) (w : World) (xs : List Int) (len : Nat) (r : Rcd) (e : Ending) (w' : World) : Prop :=
  ∃ v', e = .returned v' ∧ w'.ownsRow base 5 1 v' (len + (bytesOf r).length) (cellsOf (xs ++ bytesOf r)) ∧ Below base w w'
theorem row_eq {w : World} {base n n' : Nat} {e : TypeId} {v : Value} {xs xs' : List Int} (h : w.ownsRow base e 1 v n (cellsOf xs)) (hn : n = n') (hx : xs = xs') : w.ownsRow base e 1 v n' (cellsOf xs') := by
  subst hn hx; exact h
end Go.Proofs.Ytgjofinbdigmcaa.Rec
namespace Go.Proofs.Ytgjofinbdigmcaa.Rec
open Go.Proofs.Ytgjofinbdigmcaa.Mem Go.Proofs.Ytgjofinbdigmcaa.Pack
open Go.ChangeShapes Go.WideShapes Go.ChangeAt Go.RowKit
set_option linter.unusedVariables false
set_option linter.unusedSimpArgs false

set_option maxRecDepth 100000 in
set_option maxHeartbeats 2000000 in
theorem rput_1 (r : Rcd) (hk : r.kind = 1) (hm : May r) (hi : Is r) (v : Value) (len : Nat) (xs : List Int) (base : Nat) (w : World)
    (hown : w.ownsRow base 5 1 v len (cellsOf xs)) (hb : base ≤ w.heap.size) (hl : len ≤ 1000000) : Calls Try.prog 40 #[v, rv r] w fun e w' => Puts base w xs len r e w' := by
  obtain ⟨k, b, g, q1, q2, q3, s1, s2, ri, se, ke, va, ve, ex⟩ := r
  simp only at hk
  subst hk
  have hb0 : 0 ≤ b := hm.2.2.1
  have hb1 : b < 64 := hm.2.2.2.1
  have hgn : g < 4294967296 := hi.gen
  have hs1 : s1 < 18446744073709551616 := hi.seq
  have hs2 : s2 < 4294967296 := hi.serial
  have hse : se < 18446744073709551616 := hi.secret
  have hve : ve < 18446744073709551616 := hi.version
  have hex : ex < 18446744073709551616 := hi.expiry
  have hf : (0 ≤ q1 ∧ q1 ≤ 1099511627776) ∧ (0 ≤ q2 ∧ q2 ≤ 1099511627776) ∧ (0 ≤ q3 ∧ q3 ≤ 1099511627776) := hm.2.2.2.2.2.2
  obtain ⟨⟨hq1, hq1'⟩, ⟨hq2, hq2'⟩, ⟨hq3, hq3'⟩⟩ := hf
  clear hm hi
  obtain ⟨b, rfl⟩ : ∃ x : Nat, b = (x : Int) := ⟨b.toNat, by omega⟩
  obtain ⟨q1, rfl⟩ : ∃ x : Nat, q1 = (x : Int) := ⟨q1.toNat, by omega⟩
  obtain ⟨q2, rfl⟩ : ∃ x : Nat, q2 = (x : Int) := ⟨q2.toNat, by omega⟩
  obtain ⟨q3, rfl⟩ : ∃ x : Nat, q3 = (x : Int) := ⟨q3.toNat, by omega⟩
  have hg0 := Going.start (cells ⟨1, b, g, q1, q2, q3, s1, s2, ri, se, ke, va, ve, ex⟩) hown hb
  have HOWN := Lib.hid hown
  clear hown
  simp only [rv, cells] at hg0 ⊢
  have hlen : (bytesOf ⟨1, b, g, q1, q2, q3, s1, s2, ri, se, ke, va, ve, ex⟩).length = 42 := by simp [bytesOf, more, text, put_length, strBytes_length]; try omega
  have HLEN := Lib.hid hlen
  clear hlen
  go_enter Try.func40, Try.ntmps40
  go_wp2_with fail
  refine (put_any 1 (by omega) 1 (by omega) (by omega) v _ xs base _ hg0.own hg0.size (by omega)).mono ?_
  rintro e w1 ⟨v1, rfl, ho, hon⟩
  have hg1 := hg0.step ho hon.grown
  clear ho hon hg0
  have c1 := hg1.box.cell 1 rfl
  go_wp2_with fail
  refine (put_any b (by omega) 1 (by omega) (by omega) v1 _ (xs ++ put 1 1) base _ hg1.own hg1.size (by omega)).mono ?_
  rintro e w2 ⟨v2, rfl, ho, hon⟩
  have hg2 := hg1.step ho hon.grown
  clear ho hon hg1
  have c2 := hg2.box.cell 2 rfl
  go_wp2_with fail
  refine (put_any g (by omega) 4 (by omega) (by omega) v2 _ ((xs ++ put 1 1) ++ put b 1) base _ hg2.own hg2.size (by omega)).mono ?_
  rintro e w3 ⟨v3, rfl, ho, hon⟩
  have hg3 := hg2.step ho hon.grown
  clear ho hon hg2
  have c0 := hg3.box.cell 0 rfl
  have c3 := hg3.box.cell 3 rfl
  have c4 := hg3.box.cell 4 rfl
  have c5 := hg3.box.cell 5 rfl
  go_wp2_with fail
  refine (putQuota_any q1 q2 q3 (by omega) (by omega) (by omega) v3 _ (((xs ++ put 1 1) ++ put b 1) ++ put g 4) base _ hg3.own hg3.size (by omega)).mono ?_
  rintro e w4 ⟨v4, rfl, ho, hon⟩
  have hg4 := hg3.step ho hon.grown
  clear ho hon hg3
  have c6 := hg4.box.cell 6 rfl
  go_wp2_with fail
  refine (put_any s1 (by omega) 8 (by omega) (by omega) v4 _ ((((xs ++ put 1 1) ++ put b 1) ++ put g 4) ++ put q1 8 ++ put q2 8 ++ put q3 8) base _ hg4.own hg4.size (by omega)).mono ?_
  rintro e w5 ⟨v5, rfl, ho, hon⟩
  have hg5 := hg4.step ho hon.grown
  clear ho hon hg4
  have c7 := hg5.box.cell 7 rfl
  go_wp2_with fail
  refine (put_any s2 (by omega) 4 (by omega) (by omega) v5 _ (((((xs ++ put 1 1) ++ put b 1) ++ put g 4) ++ put q1 8 ++ put q2 8 ++ put q3 8) ++ put s1 8) base _ hg5.own hg5.size (by omega)).mono ?_
  rintro e w6 ⟨v6, rfl, ho, hon⟩
  have hg6 := hg5.step ho hon.grown
  clear ho hon hg5
  go_wp2_with fail
  go_ret
  refine ⟨_, rfl, ?_, hg6.below⟩
  rw [HLEN.out]
  refine row_eq hg6.own (by omega) ?_
  simp [bytesOf, more, text]
set_option maxRecDepth 100000 in
set_option maxHeartbeats 2000000 in
theorem rput_2 (r : Rcd) (hk : r.kind = 2) (hm : May r) (hi : Is r) (v : Value) (len : Nat) (xs : List Int) (base : Nat) (w : World)
    (hown : w.ownsRow base 5 1 v len (cellsOf xs)) (hb : base ≤ w.heap.size) (hl : len ≤ 1000000) : Calls Try.prog 40 #[v, rv r] w fun e w' => Puts base w xs len r e w' := by
  obtain ⟨k, b, g, q1, q2, q3, s1, s2, ri, se, ke, va, ve, ex⟩ := r
  simp only at hk
  subst hk
  have hb0 : 0 ≤ b := hm.2.2.1
  have hb1 : b < 64 := hm.2.2.2.1
  have hgn : g < 4294967296 := hi.gen
  have hs1 : s1 < 18446744073709551616 := hi.seq
  have hs2 : s2 < 4294967296 := hi.serial
  have hse : se < 18446744073709551616 := hi.secret
  have hve : ve < 18446744073709551616 := hi.version
  have hex : ex < 18446744073709551616 := hi.expiry
  clear hm hi
  obtain ⟨b, rfl⟩ : ∃ x : Nat, b = (x : Int) := ⟨b.toNat, by omega⟩
  have hg0 := Going.start (cells ⟨2, b, g, q1, q2, q3, s1, s2, ri, se, ke, va, ve, ex⟩) hown hb
  have HOWN := Lib.hid hown
  clear hown
  simp only [rv, cells] at hg0 ⊢
  have hlen : (bytesOf ⟨2, b, g, q1, q2, q3, s1, s2, ri, se, ke, va, ve, ex⟩).length = 6 := by simp [bytesOf, more, text, put_length, strBytes_length]; try omega
  have HLEN := Lib.hid hlen
  clear hlen
  go_enter Try.func40, Try.ntmps40
  go_wp2_with fail
  refine (put_any 2 (by omega) 1 (by omega) (by omega) v _ xs base _ hg0.own hg0.size (by omega)).mono ?_
  rintro e w1 ⟨v1, rfl, ho, hon⟩
  have hg1 := hg0.step ho hon.grown
  clear ho hon hg0
  have c1 := hg1.box.cell 1 rfl
  go_wp2_with fail
  refine (put_any b (by omega) 1 (by omega) (by omega) v1 _ (xs ++ put 2 1) base _ hg1.own hg1.size (by omega)).mono ?_
  rintro e w2 ⟨v2, rfl, ho, hon⟩
  have hg2 := hg1.step ho hon.grown
  clear ho hon hg1
  have c2 := hg2.box.cell 2 rfl
  go_wp2_with fail
  refine (put_any g (by omega) 4 (by omega) (by omega) v2 _ ((xs ++ put 2 1) ++ put b 1) base _ hg2.own hg2.size (by omega)).mono ?_
  rintro e w3 ⟨v3, rfl, ho, hon⟩
  have hg3 := hg2.step ho hon.grown
  clear ho hon hg2
  have c0 := hg3.box.cell 0 rfl
  go_wp2_with fail
  go_ret
  refine ⟨_, rfl, ?_, hg3.below⟩
  rw [HLEN.out]
  refine row_eq hg3.own (by omega) ?_
  simp [bytesOf, more, text]
end Go.Proofs.Ytgjofinbdigmcaa.Rec
namespace Go.Proofs.Ytgjofinbdigmcaa.Rec
open Go.Proofs.Ytgjofinbdigmcaa.Mem Go.Proofs.Ytgjofinbdigmcaa.Pack
open Go.ChangeShapes Go.WideShapes Go.ChangeAt Go.RowKit
set_option linter.unusedVariables false
set_option linter.unusedSimpArgs false

set_option maxRecDepth 100000 in
set_option maxHeartbeats 2000000 in
theorem rput_3 (r : Rcd) (hk : r.kind = 3) (hm : May r) (hi : Is r) (v : Value) (len : Nat) (xs : List Int) (base : Nat) (w : World)
    (hown : w.ownsRow base 5 1 v len (cellsOf xs)) (hb : base ≤ w.heap.size) (hl : len ≤ 1000000) : Calls Try.prog 40 #[v, rv r] w fun e w' => Puts base w xs len r e w' := by
  obtain ⟨k, b, g, q1, q2, q3, s1, s2, ri, se, ke, va, ve, ex⟩ := r
  simp only at hk
  subst hk
  have hb0 : 0 ≤ b := hm.2.2.1
  have hb1 : b < 64 := hm.2.2.2.1
  have hgn : g < 4294967296 := hi.gen
  have hs1 : s1 < 18446744073709551616 := hi.seq
  have hs2 : s2 < 4294967296 := hi.serial
  have hse : se < 18446744073709551616 := hi.secret
  have hve : ve < 18446744073709551616 := hi.version
  have hex : ex < 18446744073709551616 := hi.expiry
  have hf : (1 ≤ ke.size ∧ ke.size ≤ 64) ∧ va.size ≤ 1000 := hm.2.2.2.2.2.2
  obtain ⟨⟨hke, hke'⟩, hva⟩ := hf
  have hcut1 : ke = cut ke := by rw [cut, if_neg (by omega)]
  have hcut2 : va = cut va := by rw [cut, if_neg (by omega)]
  have HC1 := Lib.hid hcut1
  have HC2 := Lib.hid hcut2
  clear hcut1 hcut2
  clear hm hi
  obtain ⟨b, rfl⟩ : ∃ x : Nat, b = (x : Int) := ⟨b.toNat, by omega⟩
  have hg0 := Going.start (cells ⟨3, b, g, q1, q2, q3, s1, s2, ri, se, ke, va, ve, ex⟩) hown hb
  have HOWN := Lib.hid hown
  clear hown
  simp only [rv, cells] at hg0 ⊢
  have hlen : (bytesOf ⟨3, b, g, q1, q2, q3, s1, s2, ri, se, ke, va, ve, ex⟩).length = 26 + ke.size + va.size := by simp [bytesOf, more, text, put_length, strBytes_length]; try omega
  have HLEN := Lib.hid hlen
  clear hlen
  go_enter Try.func40, Try.ntmps40
  go_wp2_with fail
  refine (put_any 3 (by omega) 1 (by omega) (by omega) v _ xs base _ hg0.own hg0.size (by omega)).mono ?_
  rintro e w1 ⟨v1, rfl, ho, hon⟩
  have hg1 := hg0.step ho hon.grown
  clear ho hon hg0
  have c1 := hg1.box.cell 1 rfl
  go_wp2_with fail
  refine (put_any b (by omega) 1 (by omega) (by omega) v1 _ (xs ++ put 3 1) base _ hg1.own hg1.size (by omega)).mono ?_
  rintro e w2 ⟨v2, rfl, ho, hon⟩
  have hg2 := hg1.step ho hon.grown
  clear ho hon hg1
  have c2 := hg2.box.cell 2 rfl
  go_wp2_with fail
  refine (put_any g (by omega) 4 (by omega) (by omega) v2 _ ((xs ++ put 3 1) ++ put b 1) base _ hg2.own hg2.size (by omega)).mono ?_
  rintro e w3 ⟨v3, rfl, ho, hon⟩
  have hg3 := hg2.step ho hon.grown
  clear ho hon hg2
  have c0 := hg3.box.cell 0 rfl
  have c12 := hg3.box.cell 12 rfl
  go_wp2_with fail
  refine (put_any ve (by omega) 8 (by omega) (by omega) v3 _ (((xs ++ put 3 1) ++ put b 1) ++ put g 4) base _ hg3.own hg3.size (by omega)).mono ?_
  rintro e w4 ⟨v4, rfl, ho, hon⟩
  have hg4 := hg3.step ho hon.grown
  clear ho hon hg3
  have c13 := hg4.box.cell 13 rfl
  go_wp2_with fail
  refine (put_any ex (by omega) 8 (by omega) (by omega) v4 _ ((((xs ++ put 3 1) ++ put b 1) ++ put g 4) ++ put ve 8) base _ hg4.own hg4.size (by omega)).mono ?_
  rintro e w5 ⟨v5, rfl, ho, hon⟩
  have hg5 := hg4.step ho hon.grown
  clear ho hon hg4
  have c10 := hg5.box.cell 10 rfl
  go_wp2_with fail
  refine (putText_any ke ke HC1.out v5 _ (((((xs ++ put 3 1) ++ put b 1) ++ put g 4) ++ put ve 8) ++ put ex 8) base _ hg5.own hg5.size (by omega) (by omega)).mono ?_
  rintro e w6 ⟨v6, rfl, ho, hon⟩
  have hg6 := hg5.step ho hon.grown
  clear ho hon hg5
  have c11 := hg6.box.cell 11 rfl
  go_wp2_with fail
  refine (putText_any va va HC2.out v6 _ ((((((xs ++ put 3 1) ++ put b 1) ++ put g 4) ++ put ve 8) ++ put ex 8) ++ put ke.size 2 ++ strBytes ke) base _ hg6.own hg6.size (by omega) (by omega)).mono ?_
  rintro e w7 ⟨v7, rfl, ho, hon⟩
  have hg7 := hg6.step ho hon.grown
  clear ho hon hg6
  go_wp2_with fail
  go_ret
  refine ⟨_, rfl, ?_, hg7.below⟩
  rw [HLEN.out]
  refine row_eq hg7.own (by omega) ?_
  simp [bytesOf, more, text]
set_option maxRecDepth 100000 in
set_option maxHeartbeats 2000000 in
theorem rput_6 (r : Rcd) (hk : r.kind = 6) (hm : May r) (hi : Is r) (v : Value) (len : Nat) (xs : List Int) (base : Nat) (w : World)
    (hown : w.ownsRow base 5 1 v len (cellsOf xs)) (hb : base ≤ w.heap.size) (hl : len ≤ 1000000) : Calls Try.prog 40 #[v, rv r] w fun e w' => Puts base w xs len r e w' := by
  obtain ⟨k, b, g, q1, q2, q3, s1, s2, ri, se, ke, va, ve, ex⟩ := r
  simp only at hk
  subst hk
  have hb0 : 0 ≤ b := hm.2.2.1
  have hb1 : b < 64 := hm.2.2.2.1
  have hgn : g < 4294967296 := hi.gen
  have hs1 : s1 < 18446744073709551616 := hi.seq
  have hs2 : s2 < 4294967296 := hi.serial
  have hse : se < 18446744073709551616 := hi.secret
  have hve : ve < 18446744073709551616 := hi.version
  have hex : ex < 18446744073709551616 := hi.expiry
  clear hm hi
  obtain ⟨b, rfl⟩ : ∃ x : Nat, b = (x : Int) := ⟨b.toNat, by omega⟩
  have hg0 := Going.start (cells ⟨6, b, g, q1, q2, q3, s1, s2, ri, se, ke, va, ve, ex⟩) hown hb
  have HOWN := Lib.hid hown
  clear hown
  simp only [rv, cells] at hg0 ⊢
  have hlen : (bytesOf ⟨6, b, g, q1, q2, q3, s1, s2, ri, se, ke, va, ve, ex⟩).length = 10 := by simp [bytesOf, more, text, put_length, strBytes_length]; try omega
  have HLEN := Lib.hid hlen
  clear hlen
  go_enter Try.func40, Try.ntmps40
  go_wp2_with fail
  refine (put_any 6 (by omega) 1 (by omega) (by omega) v _ xs base _ hg0.own hg0.size (by omega)).mono ?_
  rintro e w1 ⟨v1, rfl, ho, hon⟩
  have hg1 := hg0.step ho hon.grown
  clear ho hon hg0
  have c1 := hg1.box.cell 1 rfl
  go_wp2_with fail
  refine (put_any b (by omega) 1 (by omega) (by omega) v1 _ (xs ++ put 6 1) base _ hg1.own hg1.size (by omega)).mono ?_
  rintro e w2 ⟨v2, rfl, ho, hon⟩
  have hg2 := hg1.step ho hon.grown
  clear ho hon hg1
  have c2 := hg2.box.cell 2 rfl
  go_wp2_with fail
  refine (put_any g (by omega) 4 (by omega) (by omega) v2 _ ((xs ++ put 6 1) ++ put b 1) base _ hg2.own hg2.size (by omega)).mono ?_
  rintro e w3 ⟨v3, rfl, ho, hon⟩
  have hg3 := hg2.step ho hon.grown
  clear ho hon hg2
  have c0 := hg3.box.cell 0 rfl
  have c7 := hg3.box.cell 7 rfl
  go_wp2_with fail
  refine (put_any s2 (by omega) 4 (by omega) (by omega) v3 _ (((xs ++ put 6 1) ++ put b 1) ++ put g 4) base _ hg3.own hg3.size (by omega)).mono ?_
  rintro e w4 ⟨v4, rfl, ho, hon⟩
  have hg4 := hg3.step ho hon.grown
  clear ho hon hg3
  go_wp2_with fail
  go_ret
  refine ⟨_, rfl, ?_, hg4.below⟩
  rw [HLEN.out]
  refine row_eq hg4.own (by omega) ?_
  simp [bytesOf, more, text]
end Go.Proofs.Ytgjofinbdigmcaa.Rec
namespace Go.Proofs.Ytgjofinbdigmcaa.Rec
open Go.Proofs.Ytgjofinbdigmcaa.Mem Go.Proofs.Ytgjofinbdigmcaa.Pack
open Go.ChangeShapes Go.WideShapes Go.ChangeAt Go.RowKit
set_option linter.unusedVariables false
set_option linter.unusedSimpArgs false

set_option maxRecDepth 100000 in
set_option maxHeartbeats 2000000 in
theorem rput_4 (r : Rcd) (hk : r.kind = 4) (hm : May r) (hi : Is r) (v : Value) (len : Nat) (xs : List Int) (base : Nat) (w : World)
    (hown : w.ownsRow base 5 1 v len (cellsOf xs)) (hb : base ≤ w.heap.size) (hl : len ≤ 1000000) : Calls Try.prog 40 #[v, rv r] w fun e w' => Puts base w xs len r e w' := by
  obtain ⟨k, b, g, q1, q2, q3, s1, s2, ri, se, ke, va, ve, ex⟩ := r
  simp only at hk
  subst hk
  have hb0 : 0 ≤ b := hm.2.2.1
  have hb1 : b < 64 := hm.2.2.2.1
  have hgn : g < 4294967296 := hi.gen
  have hs1 : s1 < 18446744073709551616 := hi.seq
  have hs2 : s2 < 4294967296 := hi.serial
  have hse : se < 18446744073709551616 := hi.secret
  have hve : ve < 18446744073709551616 := hi.version
  have hex : ex < 18446744073709551616 := hi.expiry
  have hf : 1 ≤ ke.size ∧ ke.size ≤ 64 := hm.2.2.2.2.2.2
  obtain ⟨hke, hke'⟩ := hf
  have hcut1 : ke = cut ke := by rw [cut, if_neg (by omega)]
  have HC1 := Lib.hid hcut1
  clear hcut1
  clear hm hi
  obtain ⟨b, rfl⟩ : ∃ x : Nat, b = (x : Int) := ⟨b.toNat, by omega⟩
  have hg0 := Going.start (cells ⟨4, b, g, q1, q2, q3, s1, s2, ri, se, ke, va, ve, ex⟩) hown hb
  have HOWN := Lib.hid hown
  clear hown
  simp only [rv, cells] at hg0 ⊢
  have hlen : (bytesOf ⟨4, b, g, q1, q2, q3, s1, s2, ri, se, ke, va, ve, ex⟩).length = 16 + ke.size := by simp [bytesOf, more, text, put_length, strBytes_length]; try omega
  have HLEN := Lib.hid hlen
  clear hlen
  go_enter Try.func40, Try.ntmps40
  go_wp2_with fail
  refine (put_any 4 (by omega) 1 (by omega) (by omega) v _ xs base _ hg0.own hg0.size (by omega)).mono ?_
  rintro e w1 ⟨v1, rfl, ho, hon⟩
  have hg1 := hg0.step ho hon.grown
  clear ho hon hg0
  have c1 := hg1.box.cell 1 rfl
  go_wp2_with fail
  refine (put_any b (by omega) 1 (by omega) (by omega) v1 _ (xs ++ put 4 1) base _ hg1.own hg1.size (by omega)).mono ?_
  rintro e w2 ⟨v2, rfl, ho, hon⟩
  have hg2 := hg1.step ho hon.grown
  clear ho hon hg1
  have c2 := hg2.box.cell 2 rfl
  go_wp2_with fail
  refine (put_any g (by omega) 4 (by omega) (by omega) v2 _ ((xs ++ put 4 1) ++ put b 1) base _ hg2.own hg2.size (by omega)).mono ?_
  rintro e w3 ⟨v3, rfl, ho, hon⟩
  have hg3 := hg2.step ho hon.grown
  clear ho hon hg2
  have c0 := hg3.box.cell 0 rfl
  have c12 := hg3.box.cell 12 rfl
  go_wp2_with fail
  refine (put_any ve (by omega) 8 (by omega) (by omega) v3 _ (((xs ++ put 4 1) ++ put b 1) ++ put g 4) base _ hg3.own hg3.size (by omega)).mono ?_
  rintro e w4 ⟨v4, rfl, ho, hon⟩
  have hg4 := hg3.step ho hon.grown
  clear ho hon hg3
  have c10 := hg4.box.cell 10 rfl
  go_wp2_with fail
  refine (putText_any ke ke HC1.out v4 _ ((((xs ++ put 4 1) ++ put b 1) ++ put g 4) ++ put ve 8) base _ hg4.own hg4.size (by omega) (by omega)).mono ?_
  rintro e w5 ⟨v5, rfl, ho, hon⟩
  have hg5 := hg4.step ho hon.grown
  clear ho hon hg4
  go_wp2_with fail
  go_ret
  refine ⟨_, rfl, ?_, hg5.below⟩
  rw [HLEN.out]
  refine row_eq hg5.own (by omega) ?_
  simp [bytesOf, more, text]
set_option maxRecDepth 100000 in
set_option maxHeartbeats 2000000 in
theorem rput_5 (r : Rcd) (hk : r.kind = 5) (hm : May r) (hi : Is r) (v : Value) (len : Nat) (xs : List Int) (base : Nat) (w : World)
    (hown : w.ownsRow base 5 1 v len (cellsOf xs)) (hb : base ≤ w.heap.size) (hl : len ≤ 1000000) : Calls Try.prog 40 #[v, rv r] w fun e w' => Puts base w xs len r e w' := by
  obtain ⟨k, b, g, q1, q2, q3, s1, s2, ri, se, ke, va, ve, ex⟩ := r
  simp only at hk
  subst hk
  have hb0 : 0 ≤ b := hm.2.2.1
  have hb1 : b < 64 := hm.2.2.2.1
  have hgn : g < 4294967296 := hi.gen
  have hs1 : s1 < 18446744073709551616 := hi.seq
  have hs2 : s2 < 4294967296 := hi.serial
  have hse : se < 18446744073709551616 := hi.secret
  have hve : ve < 18446744073709551616 := hi.version
  have hex : ex < 18446744073709551616 := hi.expiry
  have hf : 1 ≤ ri ∧ ri ≤ 7 := hm.2.2.2.2.2.2
  obtain ⟨hri, hri'⟩ := hf
  clear hm hi
  obtain ⟨b, rfl⟩ : ∃ x : Nat, b = (x : Int) := ⟨b.toNat, by omega⟩
  obtain ⟨ri, rfl⟩ : ∃ x : Nat, ri = (x : Int) := ⟨ri.toNat, by omega⟩
  have hg0 := Going.start (cells ⟨5, b, g, q1, q2, q3, s1, s2, ri, se, ke, va, ve, ex⟩) hown hb
  have HOWN := Lib.hid hown
  clear hown
  simp only [rv, cells] at hg0 ⊢
  have hlen : (bytesOf ⟨5, b, g, q1, q2, q3, s1, s2, ri, se, ke, va, ve, ex⟩).length = 19 := by simp [bytesOf, more, text, put_length, strBytes_length]; try omega
  have HLEN := Lib.hid hlen
  clear hlen
  go_enter Try.func40, Try.ntmps40
  go_wp2_with fail
  refine (put_any 5 (by omega) 1 (by omega) (by omega) v _ xs base _ hg0.own hg0.size (by omega)).mono ?_
  rintro e w1 ⟨v1, rfl, ho, hon⟩
  have hg1 := hg0.step ho hon.grown
  clear ho hon hg0
  have c1 := hg1.box.cell 1 rfl
  go_wp2_with fail
  refine (put_any b (by omega) 1 (by omega) (by omega) v1 _ (xs ++ put 5 1) base _ hg1.own hg1.size (by omega)).mono ?_
  rintro e w2 ⟨v2, rfl, ho, hon⟩
  have hg2 := hg1.step ho hon.grown
  clear ho hon hg1
  have c2 := hg2.box.cell 2 rfl
  go_wp2_with fail
  refine (put_any g (by omega) 4 (by omega) (by omega) v2 _ ((xs ++ put 5 1) ++ put b 1) base _ hg2.own hg2.size (by omega)).mono ?_
  rintro e w3 ⟨v3, rfl, ho, hon⟩
  have hg3 := hg2.step ho hon.grown
  clear ho hon hg2
  have c0 := hg3.box.cell 0 rfl
  have c7 := hg3.box.cell 7 rfl
  go_wp2_with fail
  refine (put_any s2 (by omega) 4 (by omega) (by omega) v3 _ (((xs ++ put 5 1) ++ put b 1) ++ put g 4) base _ hg3.own hg3.size (by omega)).mono ?_
  rintro e w4 ⟨v4, rfl, ho, hon⟩
  have hg4 := hg3.step ho hon.grown
  clear ho hon hg3
  have c8 := hg4.box.cell 8 rfl
  go_wp2_with fail
  refine (put_any ri (by omega) 1 (by omega) (by omega) v4 _ ((((xs ++ put 5 1) ++ put b 1) ++ put g 4) ++ put s2 4) base _ hg4.own hg4.size (by omega)).mono ?_
  rintro e w5 ⟨v5, rfl, ho, hon⟩
  have hg5 := hg4.step ho hon.grown
  clear ho hon hg4
  have c9 := hg5.box.cell 9 rfl
  go_wp2_with fail
  refine (put_any se (by omega) 8 (by omega) (by omega) v5 _ (((((xs ++ put 5 1) ++ put b 1) ++ put g 4) ++ put s2 4) ++ put ri 1) base _ hg5.own hg5.size (by omega)).mono ?_
  rintro e w6 ⟨v6, rfl, ho, hon⟩
  have hg6 := hg5.step ho hon.grown
  clear ho hon hg5
  go_wp2_with fail
  go_ret
  refine ⟨_, rfl, ?_, hg6.below⟩
  rw [HLEN.out]
  refine row_eq hg6.own (by omega) ?_
  simp [bytesOf, more, text]
set_option maxRecDepth 100000 in
set_option maxHeartbeats 2000000 in
theorem rput_7 (r : Rcd) (hk : r.kind = 7) (hm : May r) (hi : Is r) (v : Value) (len : Nat) (xs : List Int) (base : Nat) (w : World)
    (hown : w.ownsRow base 5 1 v len (cellsOf xs)) (hb : base ≤ w.heap.size) (hl : len ≤ 1000000) : Calls Try.prog 40 #[v, rv r] w fun e w' => Puts base w xs len r e w' := by
  obtain ⟨k, b, g, q1, q2, q3, s1, s2, ri, se, ke, va, ve, ex⟩ := r
  simp only at hk
  subst hk
  have hb0 : 0 ≤ b := hm.2.2.1
  have hb1 : b < 64 := hm.2.2.2.1
  have hgn : g < 4294967296 := hi.gen
  have hs1 : s1 < 18446744073709551616 := hi.seq
  have hs2 : s2 < 4294967296 := hi.serial
  have hse : se < 18446744073709551616 := hi.secret
  have hve : ve < 18446744073709551616 := hi.version
  have hex : ex < 18446744073709551616 := hi.expiry
  clear hm hi
  obtain ⟨b, rfl⟩ : ∃ x : Nat, b = (x : Int) := ⟨b.toNat, by omega⟩
  have hg0 := Going.start (cells ⟨7, b, g, q1, q2, q3, s1, s2, ri, se, ke, va, ve, ex⟩) hown hb
  have HOWN := Lib.hid hown
  clear hown
  simp only [rv, cells] at hg0 ⊢
  have hlen : (bytesOf ⟨7, b, g, q1, q2, q3, s1, s2, ri, se, ke, va, ve, ex⟩).length = 6 := by simp [bytesOf, more, text, put_length, strBytes_length]; try omega
  have HLEN := Lib.hid hlen
  clear hlen
  go_enter Try.func40, Try.ntmps40
  go_wp2_with fail
  refine (put_any 7 (by omega) 1 (by omega) (by omega) v _ xs base _ hg0.own hg0.size (by omega)).mono ?_
  rintro e w1 ⟨v1, rfl, ho, hon⟩
  have hg1 := hg0.step ho hon.grown
  clear ho hon hg0
  have c1 := hg1.box.cell 1 rfl
  go_wp2_with fail
  refine (put_any b (by omega) 1 (by omega) (by omega) v1 _ (xs ++ put 7 1) base _ hg1.own hg1.size (by omega)).mono ?_
  rintro e w2 ⟨v2, rfl, ho, hon⟩
  have hg2 := hg1.step ho hon.grown
  clear ho hon hg1
  have c2 := hg2.box.cell 2 rfl
  go_wp2_with fail
  refine (put_any g (by omega) 4 (by omega) (by omega) v2 _ ((xs ++ put 7 1) ++ put b 1) base _ hg2.own hg2.size (by omega)).mono ?_
  rintro e w3 ⟨v3, rfl, ho, hon⟩
  have hg3 := hg2.step ho hon.grown
  clear ho hon hg2
  have c0 := hg3.box.cell 0 rfl
  go_wp2_with fail
  go_ret
  refine ⟨_, rfl, ?_, hg3.below⟩
  rw [HLEN.out]
  refine row_eq hg3.own (by omega) ?_
  simp [bytesOf, more, text]
end Go.Proofs.Ytgjofinbdigmcaa.Rec

/- In one text: What put answers. The bytes of a request: the walks of command.put, a class of tags each. The bytes of a request: the walks of command.put, a class of tags each. The bytes of a request: the walks of command.put, a class of tags each. -/
import Derived.Test.YtbdbbnpkekcefaaGCmdPut
namespace Go.Proofs.Ytbdbbnpkekcefaa.Cmd
open Go.Proofs.Ytbdbbnpkekcefaa.Mem Go.Proofs.Ytbdbbnpkekcefaa.Pack
open Go.ChangeShapes Go.WideShapes Go.ChangeAt Go.RowKit
set_option linter.unusedVariables false
set_option linter.unusedSimpArgs false

def PutIs (q : Rq) (w : World) (e : Ending) (w' : World) : Prop := ∃ v, e = .returned v ∧ w'.ownsRow w.heap.size 5 1 v (bytesOf q).length (cellsOf (bytesOf q)) ∧ Below w.heap.size w w'
end Go.Proofs.Ytbdbbnpkekcefaa.Cmd
namespace Go.Proofs.Ytbdbbnpkekcefaa.Cmd
open Go.Proofs.Ytbdbbnpkekcefaa.Mem Go.Proofs.Ytbdbbnpkekcefaa.Pack
open Go.ChangeShapes Go.WideShapes Go.ChangeAt Go.RowKit
set_option linter.unusedVariables false
set_option linter.unusedSimpArgs false

set_option maxRecDepth 100000 in
set_option maxHeartbeats 4000000 in
theorem put_c1 (tag : Int) (h : tag = 1 ∨ tag = 3) (admin : Nat) (bucket qk qb qg tb : Int) (tg ts tx : Nat) (ops : List Op) (after : ByteArray) (first : Bool) (count rights : Int) (serial : Nat) (sv : Value) (w : World)
    (hadm : admin < 18446744073709551616) (htok : TokSo ⟨tb, tg, ts, tx⟩) (hser : serial < 4294967296) (haf : after.size ≤ 65535) (hsm : Small ops) (hops : OpsAt w sv ops) (q : Rq) (hq : q = ⟨tag, admin, bucket, ⟨qk, qb, qg⟩, ⟨tb, tg, ts, tx⟩, ops, after, first, count, rights, serial⟩) : Calls Try.prog 23 #[rv q sv] w fun e w' => PutIs q w e w' := by
  have hbl := u64_lt bucket
  have hcl := u64_lt count
  have hrl := u64_lt rights
  have htl := u64_lt tag
  have hw0 := wrap_u64 tag
  have hw1 := wrap_u64 bucket
  have hw2 := wrap_u64 count
  have hw3 := wrap_u64 rights
  have hw4 := wrap_u64_nat (n := serial) (by omega)
  have hpr := fun w => parts_c1 h w
  have hmo : more q = _ := more_c1 (q := q) (by rw [hq]; exact h)
  have HQ := Lib.hid (And.intro hq hmo)
  have hg0 := Going.start (rcells ⟨tag, admin, bucket, ⟨qk, qb, qg⟩, ⟨tb, tg, ts, tx⟩, ops, after, first, count, rights, serial⟩ sv) 32 (own_none w) (Nat.le_refl _)
  rw [hq]
  clear h hq hmo
  simp only [rv, rcells] at hg0 ⊢
  go_enter Try.func23, Try.ntmps23
  go_wp2_with fail
  refine (hpr _).mono ?_
  rintro e w1 ⟨rfl, rfl⟩
  clear hpr
  go_wp2_with fail
  refine (put_any (u64 tag) htl 1 (by omega) (by omega) _ _ _ _ _ hg0.own hg0.size (by omega)).mono ?_
  rintro e w1 ⟨v1, rfl, ho, hon⟩
  have hg1 := hg0.step ho hon
  have c1 := hg1.cell 1 rfl
  clear ho hon hg0
  go_wp2_with fail
  clear c1
  refine (put_any admin hadm 8 (by omega) (by omega) v1 _ _ _ _ hg1.own hg1.size (by omega)).mono ?_
  rintro e w2 ⟨v2, rfl, ho, hon⟩
  have hg2 := hg1.step ho hon
  have c2 := hg2.cell 2 rfl
  clear ho hon hg1
  go_wp2_with fail
  clear c2
  refine (put_any (u64 bucket) hbl 1 (by omega) (by omega) v2 _ _ _ _ hg2.own hg2.size (by omega)).mono ?_
  rintro e w3 ⟨v3, rfl, ho, hon⟩
  have hg3 := hg2.step ho hon
  have c3 := hg3.cell 3 rfl
  have c4 := hg3.cell 4 rfl
  have c5 := hg3.cell 5 rfl
  clear ho hon hg2
  go_wp2_with fail
  clear c3 c4 c5
  refine (putQuota_any ⟨qk, qb, qg⟩ v3 _ _ _ _ hg3.own hg3.size (by omega)).mono ?_
  rintro e w4 ⟨v4, rfl, ho, hon⟩
  have hg4 := hg3.step ho hon
  clear ho hon hg3
  go_wp2_with fail
  go_ret
  have hby : bytesOf q = put (u64 tag) 1 ++ more q := by unfold bytesOf; rw [HQ.out.1]
  refine ⟨_, rfl, ?_, (hg4.onto.below (own_none w) (Nat.le_refl _))⟩
  rw [← HQ.out.1, hby, HQ.out.2, HQ.out.1]
  refine row_eq hg4.own ?_ ?_
  · simp [putTok, putQuo, put_length, text_length, flag]; try omega
  · simp
set_option maxRecDepth 100000 in
set_option maxHeartbeats 4000000 in
theorem put_c2 (tag : Int) (h : tag = 2) (admin : Nat) (bucket qk qb qg tb : Int) (tg ts tx : Nat) (ops : List Op) (after : ByteArray) (first : Bool) (count rights : Int) (serial : Nat) (sv : Value) (w : World)
    (hadm : admin < 18446744073709551616) (htok : TokSo ⟨tb, tg, ts, tx⟩) (hser : serial < 4294967296) (haf : after.size ≤ 65535) (hsm : Small ops) (hops : OpsAt w sv ops) (q : Rq) (hq : q = ⟨tag, admin, bucket, ⟨qk, qb, qg⟩, ⟨tb, tg, ts, tx⟩, ops, after, first, count, rights, serial⟩) : Calls Try.prog 23 #[rv q sv] w fun e w' => PutIs q w e w' := by
  have hbl := u64_lt bucket
  have hcl := u64_lt count
  have hrl := u64_lt rights
  have htl := u64_lt tag
  have hw0 := wrap_u64 tag
  have hw1 := wrap_u64 bucket
  have hw2 := wrap_u64 count
  have hw3 := wrap_u64 rights
  have hw4 := wrap_u64_nat (n := serial) (by omega)
  have hpr := fun w => parts_c2 h w
  have hmo : more q = _ := more_c2 (q := q) (by rw [hq]; exact h)
  have HQ := Lib.hid (And.intro hq hmo)
  have hg0 := Going.start (rcells ⟨tag, admin, bucket, ⟨qk, qb, qg⟩, ⟨tb, tg, ts, tx⟩, ops, after, first, count, rights, serial⟩ sv) 32 (own_none w) (Nat.le_refl _)
  rw [hq]
  clear h hq hmo
  simp only [rv, rcells] at hg0 ⊢
  go_enter Try.func23, Try.ntmps23
  go_wp2_with fail
  refine (hpr _).mono ?_
  rintro e w1 ⟨rfl, rfl⟩
  clear hpr
  go_wp2_with fail
  refine (put_any (u64 tag) htl 1 (by omega) (by omega) _ _ _ _ _ hg0.own hg0.size (by omega)).mono ?_
  rintro e w1 ⟨v1, rfl, ho, hon⟩
  have hg1 := hg0.step ho hon
  have c1 := hg1.cell 1 rfl
  clear ho hon hg0
  go_wp2_with fail
  clear c1
  refine (put_any admin hadm 8 (by omega) (by omega) v1 _ _ _ _ hg1.own hg1.size (by omega)).mono ?_
  rintro e w2 ⟨v2, rfl, ho, hon⟩
  have hg2 := hg1.step ho hon
  have c2 := hg2.cell 2 rfl
  clear ho hon hg1
  go_wp2_with fail
  clear c2
  refine (put_any (u64 bucket) hbl 1 (by omega) (by omega) v2 _ _ _ _ hg2.own hg2.size (by omega)).mono ?_
  rintro e w3 ⟨v3, rfl, ho, hon⟩
  have hg3 := hg2.step ho hon
  clear ho hon hg2
  go_wp2_with fail
  go_ret
  have hby : bytesOf q = put (u64 tag) 1 ++ more q := by unfold bytesOf; rw [HQ.out.1]
  refine ⟨_, rfl, ?_, (hg3.onto.below (own_none w) (Nat.le_refl _))⟩
  rw [← HQ.out.1, hby, HQ.out.2, HQ.out.1]
  refine row_eq hg3.own ?_ ?_
  · simp [putTok, putQuo, put_length, text_length, flag]; try omega
  · simp
set_option maxRecDepth 100000 in
set_option maxHeartbeats 4000000 in
theorem put_c4 (tag : Int) (h : tag = 4 ∨ tag = 5) (admin : Nat) (bucket qk qb qg tb : Int) (tg ts tx : Nat) (ops : List Op) (after : ByteArray) (first : Bool) (count rights : Int) (serial : Nat) (sv : Value) (w : World)
    (hadm : admin < 18446744073709551616) (htok : TokSo ⟨tb, tg, ts, tx⟩) (hser : serial < 4294967296) (haf : after.size ≤ 65535) (hsm : Small ops) (hops : OpsAt w sv ops) (q : Rq) (hq : q = ⟨tag, admin, bucket, ⟨qk, qb, qg⟩, ⟨tb, tg, ts, tx⟩, ops, after, first, count, rights, serial⟩) : Calls Try.prog 23 #[rv q sv] w fun e w' => PutIs q w e w' := by
  have hbl := u64_lt bucket
  have hcl := u64_lt count
  have hrl := u64_lt rights
  have htl := u64_lt tag
  have hw0 := wrap_u64 tag
  have hw1 := wrap_u64 bucket
  have hw2 := wrap_u64 count
  have hw3 := wrap_u64 rights
  have hw4 := wrap_u64_nat (n := serial) (by omega)
  have hpr := fun w => parts_c4 h w
  have hmo : more q = _ := more_c4 (q := q) (by rw [hq]; exact h)
  have HQ := Lib.hid (And.intro hq hmo)
  have hg0 := Going.start (rcells ⟨tag, admin, bucket, ⟨qk, qb, qg⟩, ⟨tb, tg, ts, tx⟩, ops, after, first, count, rights, serial⟩ sv) 32 (own_none w) (Nat.le_refl _)
  rw [hq]
  clear h hq hmo
  simp only [rv, rcells] at hg0 ⊢
  go_enter Try.func23, Try.ntmps23
  go_wp2_with fail
  refine (hpr _).mono ?_
  rintro e w1 ⟨rfl, rfl⟩
  clear hpr
  go_wp2_with fail
  refine (put_any (u64 tag) htl 1 (by omega) (by omega) _ _ _ _ _ hg0.own hg0.size (by omega)).mono ?_
  rintro e w1 ⟨v1, rfl, ho, hon⟩
  have hg1 := hg0.step ho hon
  have c1 := hg1.cell 1 rfl
  clear ho hon hg0
  go_wp2_with fail
  clear c1
  refine (put_any admin hadm 8 (by omega) (by omega) v1 _ _ _ _ hg1.own hg1.size (by omega)).mono ?_
  rintro e w2 ⟨v2, rfl, ho, hon⟩
  have hg2 := hg1.step ho hon
  clear ho hon hg1
  go_wp2_with fail
  go_ret
  have hby : bytesOf q = put (u64 tag) 1 ++ more q := by unfold bytesOf; rw [HQ.out.1]
  refine ⟨_, rfl, ?_, (hg2.onto.below (own_none w) (Nat.le_refl _))⟩
  rw [← HQ.out.1, hby, HQ.out.2, HQ.out.1]
  refine row_eq hg2.own ?_ ?_
  · simp [putTok, putQuo, put_length, text_length, flag]; try omega
  · simp
end Go.Proofs.Ytbdbbnpkekcefaa.Cmd
namespace Go.Proofs.Ytbdbbnpkekcefaa.Cmd
open Go.Proofs.Ytbdbbnpkekcefaa.Mem Go.Proofs.Ytbdbbnpkekcefaa.Pack
open Go.ChangeShapes Go.WideShapes Go.ChangeAt Go.RowKit
set_option linter.unusedVariables false
set_option linter.unusedSimpArgs false

set_option maxRecDepth 100000 in
set_option maxHeartbeats 4000000 in
theorem put_c6 (tag : Int) (h : 6 ≤ tag ∧ tag ≤ 9) (admin : Nat) (bucket qk qb qg tb : Int) (tg ts tx : Nat) (ops : List Op) (after : ByteArray) (first : Bool) (count rights : Int) (serial : Nat) (sv : Value) (w : World)
    (hadm : admin < 18446744073709551616) (htok : TokSo ⟨tb, tg, ts, tx⟩) (hser : serial < 4294967296) (haf : after.size ≤ 65535) (hsm : Small ops) (hops : OpsAt w sv ops) (q : Rq) (hq : q = ⟨tag, admin, bucket, ⟨qk, qb, qg⟩, ⟨tb, tg, ts, tx⟩, ops, after, first, count, rights, serial⟩) : Calls Try.prog 23 #[rv q sv] w fun e w' => PutIs q w e w' := by
  have hbl := u64_lt bucket
  have hcl := u64_lt count
  have hrl := u64_lt rights
  have htl := u64_lt tag
  have hw0 := wrap_u64 tag
  have hw1 := wrap_u64 bucket
  have hw2 := wrap_u64 count
  have hw3 := wrap_u64 rights
  have hw4 := wrap_u64_nat (n := serial) (by omega)
  have hpr := fun w => parts_c6 h w
  have hmo : more q = _ := more_c6 (q := q) (by rw [hq]; exact h)
  have HQ := Lib.hid (And.intro hq hmo)
  have hg0 := Going.start (rcells ⟨tag, admin, bucket, ⟨qk, qb, qg⟩, ⟨tb, tg, ts, tx⟩, ops, after, first, count, rights, serial⟩ sv) 32 (own_none w) (Nat.le_refl _)
  rw [hq]
  clear h hq hmo
  simp only [rv, rcells] at hg0 ⊢
  go_enter Try.func23, Try.ntmps23
  go_wp2_with fail
  refine (hpr _).mono ?_
  rintro e w1 ⟨rfl, rfl⟩
  clear hpr
  go_wp2_with fail
  refine (put_any (u64 tag) htl 1 (by omega) (by omega) _ _ _ _ _ hg0.own hg0.size (by omega)).mono ?_
  rintro e w1 ⟨v1, rfl, ho, hon⟩
  have hg1 := hg0.step ho hon
  have c6 := hg1.cell 6 rfl
  have c7 := hg1.cell 7 rfl
  have c8 := hg1.cell 8 rfl
  have c9 := hg1.cell 9 rfl
  clear ho hon hg0
  go_wp2_with fail
  clear c6 c7 c8 c9
  refine (putToken_any ⟨tb, tg, ts, tx⟩ htok v1 _ _ _ _ hg1.own hg1.size (by omega)).mono ?_
  rintro e w2 ⟨v2, rfl, ho, hon⟩
  have hg2 := hg1.step ho hon
  have c0 := hg2.cell 0 rfl
  have c10 := hg2.cell 10 rfl
  clear ho hon hg1
  go_wp2_with fail
  clear c0 c10
  refine (putAll_any tag ops hsm sv w hops v2 _ _ _ _ rfl (hg2.onto.below (own_none w) (Nat.le_refl _)) hg2.own (by omega)).mono ?_
  rintro e w3 ⟨v3, rfl, ho, hon⟩
  have hg3 := hg2.step ho hon
  clear ho hon hg2
  go_wp2_with fail
  go_ret
  have hby : bytesOf q = put (u64 tag) 1 ++ more q := by unfold bytesOf; rw [HQ.out.1]
  refine ⟨_, rfl, ?_, (hg3.onto.below (own_none w) (Nat.le_refl _))⟩
  rw [← HQ.out.1, hby, HQ.out.2, HQ.out.1]
  refine row_eq hg3.own ?_ ?_
  · simp [putTok, putQuo, put_length, text_length, flag]; try omega
  · simp
set_option maxRecDepth 100000 in
set_option maxHeartbeats 4000000 in
theorem put_c10 (tag : Int) (h : tag = 10) (admin : Nat) (bucket qk qb qg tb : Int) (tg ts tx : Nat) (ops : List Op) (after : ByteArray) (first : Bool) (count rights : Int) (serial : Nat) (sv : Value) (w : World)
    (hadm : admin < 18446744073709551616) (htok : TokSo ⟨tb, tg, ts, tx⟩) (hser : serial < 4294967296) (haf : after.size ≤ 65535) (hsm : Small ops) (hops : OpsAt w sv ops) (q : Rq) (hq : q = ⟨tag, admin, bucket, ⟨qk, qb, qg⟩, ⟨tb, tg, ts, tx⟩, ops, after, first, count, rights, serial⟩) : Calls Try.prog 23 #[rv q sv] w fun e w' => PutIs q w e w' := by
  have hbl := u64_lt bucket
  have hcl := u64_lt count
  have hrl := u64_lt rights
  have htl := u64_lt tag
  have hw0 := wrap_u64 tag
  have hw1 := wrap_u64 bucket
  have hw2 := wrap_u64 count
  have hw3 := wrap_u64 rights
  have hw4 := wrap_u64_nat (n := serial) (by omega)
  have hpr := fun w => parts_c10 h w
  have hmo : more q = _ := more_c10 (q := q) (by rw [hq]; exact h)
  have HQ := Lib.hid (And.intro hq hmo)
  have hg0 := Going.start (rcells ⟨tag, admin, bucket, ⟨qk, qb, qg⟩, ⟨tb, tg, ts, tx⟩, ops, after, first, count, rights, serial⟩ sv) 32 (own_none w) (Nat.le_refl _)
  rw [hq]
  clear h hq hmo
  simp only [rv, rcells] at hg0 ⊢
  go_enter Try.func23, Try.ntmps23
  go_wp2_with fail
  refine (hpr _).mono ?_
  rintro e w1 ⟨rfl, rfl⟩
  clear hpr
  go_wp2_with fail
  refine (put_any (u64 tag) htl 1 (by omega) (by omega) _ _ _ _ _ hg0.own hg0.size (by omega)).mono ?_
  rintro e w1 ⟨v1, rfl, ho, hon⟩
  have hg1 := hg0.step ho hon
  have c6 := hg1.cell 6 rfl
  have c7 := hg1.cell 7 rfl
  have c8 := hg1.cell 8 rfl
  have c9 := hg1.cell 9 rfl
  clear ho hon hg0
  go_wp2_with fail
  clear c6 c7 c8 c9
  refine (putToken_any ⟨tb, tg, ts, tx⟩ htok v1 _ _ _ _ hg1.own hg1.size (by omega)).mono ?_
  rintro e w2 ⟨v2, rfl, ho, hon⟩
  have hg2 := hg1.step ho hon
  have c11 := hg2.cell 11 rfl
  clear ho hon hg1
  go_wp2_with fail
  clear c11
  refine (text_onto after haf v2 _ _ _ _ hg2.own hg2.size (by omega)).mono ?_
  rintro e w3 ⟨v3, rfl, ho, hon⟩
  have hg3 := hg2.step ho hon
  have c12 := hg3.cell 12 rfl
  clear ho hon hg2
  go_wp2_with fail
  clear c12
  refine (putFlag_any first v3 _ _ _ _ hg3.own hg3.size (by omega)).mono ?_
  rintro e w4 ⟨v4, rfl, ho, hon⟩
  have hg4 := hg3.step ho hon
  have c13 := hg4.cell 13 rfl
  clear ho hon hg3
  go_wp2_with fail
  clear c13
  refine (put_any (u64 count) hcl 1 (by omega) (by omega) v4 _ _ _ _ hg4.own hg4.size (by omega)).mono ?_
  rintro e w5 ⟨v5, rfl, ho, hon⟩
  have hg5 := hg4.step ho hon
  clear ho hon hg4
  go_wp2_with fail
  go_ret
  have hby : bytesOf q = put (u64 tag) 1 ++ more q := by unfold bytesOf; rw [HQ.out.1]
  refine ⟨_, rfl, ?_, (hg5.onto.below (own_none w) (Nat.le_refl _))⟩
  rw [← HQ.out.1, hby, HQ.out.2, HQ.out.1]
  refine row_eq hg5.own ?_ ?_
  · simp [putTok, putQuo, put_length, text_length, flag]; try omega
  · simp
end Go.Proofs.Ytbdbbnpkekcefaa.Cmd
namespace Go.Proofs.Ytbdbbnpkekcefaa.Cmd
open Go.Proofs.Ytbdbbnpkekcefaa.Mem Go.Proofs.Ytbdbbnpkekcefaa.Pack
open Go.ChangeShapes Go.WideShapes Go.ChangeAt Go.RowKit
set_option linter.unusedVariables false
set_option linter.unusedSimpArgs false

set_option maxRecDepth 100000 in
set_option maxHeartbeats 4000000 in
theorem put_c11 (tag : Int) (h : tag = 11) (admin : Nat) (bucket qk qb qg tb : Int) (tg ts tx : Nat) (ops : List Op) (after : ByteArray) (first : Bool) (count rights : Int) (serial : Nat) (sv : Value) (w : World)
    (hadm : admin < 18446744073709551616) (htok : TokSo ⟨tb, tg, ts, tx⟩) (hser : serial < 4294967296) (haf : after.size ≤ 65535) (hsm : Small ops) (hops : OpsAt w sv ops) (q : Rq) (hq : q = ⟨tag, admin, bucket, ⟨qk, qb, qg⟩, ⟨tb, tg, ts, tx⟩, ops, after, first, count, rights, serial⟩) : Calls Try.prog 23 #[rv q sv] w fun e w' => PutIs q w e w' := by
  have hbl := u64_lt bucket
  have hcl := u64_lt count
  have hrl := u64_lt rights
  have htl := u64_lt tag
  have hw0 := wrap_u64 tag
  have hw1 := wrap_u64 bucket
  have hw2 := wrap_u64 count
  have hw3 := wrap_u64 rights
  have hw4 := wrap_u64_nat (n := serial) (by omega)
  have hpr := fun w => parts_c11 h w
  have hmo : more q = _ := more_c11 (q := q) (by rw [hq]; exact h)
  have HQ := Lib.hid (And.intro hq hmo)
  have hg0 := Going.start (rcells ⟨tag, admin, bucket, ⟨qk, qb, qg⟩, ⟨tb, tg, ts, tx⟩, ops, after, first, count, rights, serial⟩ sv) 32 (own_none w) (Nat.le_refl _)
  rw [hq]
  clear h hq hmo
  simp only [rv, rcells] at hg0 ⊢
  go_enter Try.func23, Try.ntmps23
  go_wp2_with fail
  refine (hpr _).mono ?_
  rintro e w1 ⟨rfl, rfl⟩
  clear hpr
  go_wp2_with fail
  refine (put_any (u64 tag) htl 1 (by omega) (by omega) _ _ _ _ _ hg0.own hg0.size (by omega)).mono ?_
  rintro e w1 ⟨v1, rfl, ho, hon⟩
  have hg1 := hg0.step ho hon
  have c6 := hg1.cell 6 rfl
  have c7 := hg1.cell 7 rfl
  have c8 := hg1.cell 8 rfl
  have c9 := hg1.cell 9 rfl
  clear ho hon hg0
  go_wp2_with fail
  clear c6 c7 c8 c9
  refine (putToken_any ⟨tb, tg, ts, tx⟩ htok v1 _ _ _ _ hg1.own hg1.size (by omega)).mono ?_
  rintro e w2 ⟨v2, rfl, ho, hon⟩
  have hg2 := hg1.step ho hon
  clear ho hon hg1
  go_wp2_with fail
  go_ret
  have hby : bytesOf q = put (u64 tag) 1 ++ more q := by unfold bytesOf; rw [HQ.out.1]
  refine ⟨_, rfl, ?_, (hg2.onto.below (own_none w) (Nat.le_refl _))⟩
  rw [← HQ.out.1, hby, HQ.out.2, HQ.out.1]
  refine row_eq hg2.own ?_ ?_
  · simp [putTok, putQuo, put_length, text_length, flag]; try omega
  · simp
set_option maxRecDepth 100000 in
set_option maxHeartbeats 4000000 in
theorem put_c12 (tag : Int) (h : tag = 12) (admin : Nat) (bucket qk qb qg tb : Int) (tg ts tx : Nat) (ops : List Op) (after : ByteArray) (first : Bool) (count rights : Int) (serial : Nat) (sv : Value) (w : World)
    (hadm : admin < 18446744073709551616) (htok : TokSo ⟨tb, tg, ts, tx⟩) (hser : serial < 4294967296) (haf : after.size ≤ 65535) (hsm : Small ops) (hops : OpsAt w sv ops) (q : Rq) (hq : q = ⟨tag, admin, bucket, ⟨qk, qb, qg⟩, ⟨tb, tg, ts, tx⟩, ops, after, first, count, rights, serial⟩) : Calls Try.prog 23 #[rv q sv] w fun e w' => PutIs q w e w' := by
  have hbl := u64_lt bucket
  have hcl := u64_lt count
  have hrl := u64_lt rights
  have htl := u64_lt tag
  have hw0 := wrap_u64 tag
  have hw1 := wrap_u64 bucket
  have hw2 := wrap_u64 count
  have hw3 := wrap_u64 rights
  have hw4 := wrap_u64_nat (n := serial) (by omega)
  have hpr := fun w => parts_c12 h w
  have hmo : more q = _ := more_c12 (q := q) (by rw [hq]; exact h)
  have HQ := Lib.hid (And.intro hq hmo)
  have hg0 := Going.start (rcells ⟨tag, admin, bucket, ⟨qk, qb, qg⟩, ⟨tb, tg, ts, tx⟩, ops, after, first, count, rights, serial⟩ sv) 32 (own_none w) (Nat.le_refl _)
  rw [hq]
  clear h hq hmo
  simp only [rv, rcells] at hg0 ⊢
  go_enter Try.func23, Try.ntmps23
  go_wp2_with fail
  refine (hpr _).mono ?_
  rintro e w1 ⟨rfl, rfl⟩
  clear hpr
  go_wp2_with fail
  refine (put_any (u64 tag) htl 1 (by omega) (by omega) _ _ _ _ _ hg0.own hg0.size (by omega)).mono ?_
  rintro e w1 ⟨v1, rfl, ho, hon⟩
  have hg1 := hg0.step ho hon
  have c6 := hg1.cell 6 rfl
  have c7 := hg1.cell 7 rfl
  have c8 := hg1.cell 8 rfl
  have c9 := hg1.cell 9 rfl
  clear ho hon hg0
  go_wp2_with fail
  clear c6 c7 c8 c9
  refine (putToken_any ⟨tb, tg, ts, tx⟩ htok v1 _ _ _ _ hg1.own hg1.size (by omega)).mono ?_
  rintro e w2 ⟨v2, rfl, ho, hon⟩
  have hg2 := hg1.step ho hon
  have c14 := hg2.cell 14 rfl
  clear ho hon hg1
  go_wp2_with fail
  clear c14
  refine (put_any (u64 rights) hrl 1 (by omega) (by omega) v2 _ _ _ _ hg2.own hg2.size (by omega)).mono ?_
  rintro e w3 ⟨v3, rfl, ho, hon⟩
  have hg3 := hg2.step ho hon
  clear ho hon hg2
  go_wp2_with fail
  go_ret
  have hby : bytesOf q = put (u64 tag) 1 ++ more q := by unfold bytesOf; rw [HQ.out.1]
  refine ⟨_, rfl, ?_, (hg3.onto.below (own_none w) (Nat.le_refl _))⟩
  rw [← HQ.out.1, hby, HQ.out.2, HQ.out.1]
  refine row_eq hg3.own ?_ ?_
  · simp [putTok, putQuo, put_length, text_length, flag]; try omega
  · simp
set_option maxRecDepth 100000 in
set_option maxHeartbeats 4000000 in
theorem put_c13 (tag : Int) (h : tag = 13) (admin : Nat) (bucket qk qb qg tb : Int) (tg ts tx : Nat) (ops : List Op) (after : ByteArray) (first : Bool) (count rights : Int) (serial : Nat) (sv : Value) (w : World)
    (hadm : admin < 18446744073709551616) (htok : TokSo ⟨tb, tg, ts, tx⟩) (hser : serial < 4294967296) (haf : after.size ≤ 65535) (hsm : Small ops) (hops : OpsAt w sv ops) (q : Rq) (hq : q = ⟨tag, admin, bucket, ⟨qk, qb, qg⟩, ⟨tb, tg, ts, tx⟩, ops, after, first, count, rights, serial⟩) : Calls Try.prog 23 #[rv q sv] w fun e w' => PutIs q w e w' := by
  have hbl := u64_lt bucket
  have hcl := u64_lt count
  have hrl := u64_lt rights
  have htl := u64_lt tag
  have hw0 := wrap_u64 tag
  have hw1 := wrap_u64 bucket
  have hw2 := wrap_u64 count
  have hw3 := wrap_u64 rights
  have hw4 := wrap_u64_nat (n := serial) (by omega)
  have hpr := fun w => parts_c13 h w
  have hmo : more q = _ := more_c13 (q := q) (by rw [hq]; exact h)
  have HQ := Lib.hid (And.intro hq hmo)
  have hg0 := Going.start (rcells ⟨tag, admin, bucket, ⟨qk, qb, qg⟩, ⟨tb, tg, ts, tx⟩, ops, after, first, count, rights, serial⟩ sv) 32 (own_none w) (Nat.le_refl _)
  rw [hq]
  clear h hq hmo
  simp only [rv, rcells] at hg0 ⊢
  go_enter Try.func23, Try.ntmps23
  go_wp2_with fail
  refine (hpr _).mono ?_
  rintro e w1 ⟨rfl, rfl⟩
  clear hpr
  go_wp2_with fail
  refine (put_any (u64 tag) htl 1 (by omega) (by omega) _ _ _ _ _ hg0.own hg0.size (by omega)).mono ?_
  rintro e w1 ⟨v1, rfl, ho, hon⟩
  have hg1 := hg0.step ho hon
  have c6 := hg1.cell 6 rfl
  have c7 := hg1.cell 7 rfl
  have c8 := hg1.cell 8 rfl
  have c9 := hg1.cell 9 rfl
  clear ho hon hg0
  go_wp2_with fail
  clear c6 c7 c8 c9
  refine (putToken_any ⟨tb, tg, ts, tx⟩ htok v1 _ _ _ _ hg1.own hg1.size (by omega)).mono ?_
  rintro e w2 ⟨v2, rfl, ho, hon⟩
  have hg2 := hg1.step ho hon
  have c15 := hg2.cell 15 rfl
  clear ho hon hg1
  go_wp2_with fail
  clear c15
  refine (put_any serial (by omega) 4 (by omega) (by omega) v2 _ _ _ _ hg2.own hg2.size (by omega)).mono ?_
  rintro e w3 ⟨v3, rfl, ho, hon⟩
  have hg3 := hg2.step ho hon
  clear ho hon hg2
  go_wp2_with fail
  go_ret
  have hby : bytesOf q = put (u64 tag) 1 ++ more q := by unfold bytesOf; rw [HQ.out.1]
  refine ⟨_, rfl, ?_, (hg3.onto.below (own_none w) (Nat.le_refl _))⟩
  rw [← HQ.out.1, hby, HQ.out.2, HQ.out.1]
  refine row_eq hg3.own ?_ ?_
  · simp [putTok, putQuo, put_length, text_length, flag]; try omega
  · simp
end Go.Proofs.Ytbdbbnpkekcefaa.Cmd

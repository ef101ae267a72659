/- In one text: The bytes of a record: the walks of record.put, a kind each. The bytes of a record as the document's: the walks of the reference's Bytes, a kind each. -/
import Derived.Test.YtkppliljlcihmaaGreatDoorGC
namespace Go.Proofs.YtkppliljlcihmaaGreatDoor.Rec
open Go.Proofs.YtkppliljlcihmaaGreatDoor.Mem Go.Proofs.YtkppliljlcihmaaGreatDoor.Pack
open Go.ChangeShapes Go.WideShapes Go.ChangeAt Go.RowKit
set_option linter.unusedVariables false
set_option linter.unusedSimpArgs false

set_option maxRecDepth 100000 in
set_option maxHeartbeats 2000000 in
theorem rput_1 (r : Rcd) (hk : r.kind = 1) (hm : May r) (hi : Is r) (v : Value) (len : Nat) (xs : List Int) (base : Nat) (w : World)
    (hown : w.ownsRow base 5 1 v len (cellsOf xs)) (hb : base ≤ w.heap.size) (hl : len ≤ 1000000) : Calls Tryz.prog 66 #[v, rv r] w fun e w' => Puts base w xs len r e w' := by
  obtain ⟨k, b, g, q1, q2, q3, s1, s2, ri, se, ke, va, ve, ex⟩ := r
  simp only at hk
  subst hk
  have hb0 : 0 ≤ b := hm.2.2.1
  have hb1 : b < 64 := hm.2.2.2.1
  have hgn : g < 4294967296 := hi.gen
  have hs1 : s1 < 18446744073709551616 := hi.seq
  have hs2 : s2 < 4294967296 := hi.serial
  have hse : se < 18446744073709551616 := hi.secret
  have hve : ve < 18446744073709551616 := hi.version
  have hex : ex < 18446744073709551616 := hi.expiry
  have hf : (0 ≤ q1 ∧ q1 ≤ 1099511627776) ∧ (0 ≤ q2 ∧ q2 ≤ 1099511627776) ∧ (0 ≤ q3 ∧ q3 ≤ 1099511627776) := hm.2.2.2.2.2.2
  obtain ⟨⟨hq1, hq1'⟩, ⟨hq2, hq2'⟩, ⟨hq3, hq3'⟩⟩ := hf
  clear hm hi
  obtain ⟨b, rfl⟩ : ∃ x : Nat, b = (x : Int) := ⟨b.toNat, by omega⟩
  obtain ⟨q1, rfl⟩ : ∃ x : Nat, q1 = (x : Int) := ⟨q1.toNat, by omega⟩
  obtain ⟨q2, rfl⟩ : ∃ x : Nat, q2 = (x : Int) := ⟨q2.toNat, by omega⟩
  obtain ⟨q3, rfl⟩ : ∃ x : Nat, q3 = (x : Int) := ⟨q3.toNat, by omega⟩
  have hg0 := Going.start (cells ⟨1, b, g, q1, q2, q3, s1, s2, ri, se, ke, va, ve, ex⟩) hown hb
  have HOWN := Lib.hid hown
  clear hown
  simp only [rv, cells] at hg0 ⊢
  have hlen : (bytesOf ⟨1, b, g, q1, q2, q3, s1, s2, ri, se, ke, va, ve, ex⟩).length = 42 := by simp [bytesOf, more, text, put_length, strBytes_length]; try omega
  have HLEN := Lib.hid hlen
  clear hlen
  go_enter Tryz.func66, Tryz.ntmps66
  go_wp2_with fail
  refine (put_any 1 (by omega) 1 (by omega) (by omega) v _ xs base _ hg0.own hg0.size (by omega)).mono ?_
  rintro e w1 ⟨v1, rfl, ho, hon⟩
  have hg1 := hg0.step ho hon.grown
  clear ho hon hg0
  have c1 := hg1.box.cell 1 rfl
  go_wp2_with fail
  refine (put_any b (by omega) 1 (by omega) (by omega) v1 _ (xs ++ put 1 1) base _ hg1.own hg1.size (by omega)).mono ?_
  rintro e w2 ⟨v2, rfl, ho, hon⟩
  have hg2 := hg1.step ho hon.grown
  clear ho hon hg1
  have c2 := hg2.box.cell 2 rfl
  go_wp2_with fail
  refine (put_any g (by omega) 4 (by omega) (by omega) v2 _ ((xs ++ put 1 1) ++ put b 1) base _ hg2.own hg2.size (by omega)).mono ?_
  rintro e w3 ⟨v3, rfl, ho, hon⟩
  have hg3 := hg2.step ho hon.grown
  clear ho hon hg2
  have c0 := hg3.box.cell 0 rfl
  have c3 := hg3.box.cell 3 rfl
  have c4 := hg3.box.cell 4 rfl
  have c5 := hg3.box.cell 5 rfl
  go_wp2_with fail
  refine (putQuota_any q1 q2 q3 (by omega) (by omega) (by omega) v3 _ (((xs ++ put 1 1) ++ put b 1) ++ put g 4) base _ hg3.own hg3.size (by omega)).mono ?_
  rintro e w4 ⟨v4, rfl, ho, hon⟩
  have hg4 := hg3.step ho hon.grown
  clear ho hon hg3
  have c6 := hg4.box.cell 6 rfl
  go_wp2_with fail
  refine (put_any s1 (by omega) 8 (by omega) (by omega) v4 _ ((((xs ++ put 1 1) ++ put b 1) ++ put g 4) ++ put q1 8 ++ put q2 8 ++ put q3 8) base _ hg4.own hg4.size (by omega)).mono ?_
  rintro e w5 ⟨v5, rfl, ho, hon⟩
  have hg5 := hg4.step ho hon.grown
  clear ho hon hg4
  have c7 := hg5.box.cell 7 rfl
  go_wp2_with fail
  refine (put_any s2 (by omega) 4 (by omega) (by omega) v5 _ (((((xs ++ put 1 1) ++ put b 1) ++ put g 4) ++ put q1 8 ++ put q2 8 ++ put q3 8) ++ put s1 8) base _ hg5.own hg5.size (by omega)).mono ?_
  rintro e w6 ⟨v6, rfl, ho, hon⟩
  have hg6 := hg5.step ho hon.grown
  clear ho hon hg5
  go_wp2_with fail
  go_ret
  refine ⟨_, rfl, ?_, hg6.below⟩
  rw [HLEN.out]
  refine row_eq hg6.own (by omega) ?_
  simp [bytesOf, more, text]
set_option maxRecDepth 100000 in
set_option maxHeartbeats 2000000 in
theorem rput_2 (r : Rcd) (hk : r.kind = 2) (hm : May r) (hi : Is r) (v : Value) (len : Nat) (xs : List Int) (base : Nat) (w : World)
    (hown : w.ownsRow base 5 1 v len (cellsOf xs)) (hb : base ≤ w.heap.size) (hl : len ≤ 1000000) : Calls Tryz.prog 66 #[v, rv r] w fun e w' => Puts base w xs len r e w' := by
  obtain ⟨k, b, g, q1, q2, q3, s1, s2, ri, se, ke, va, ve, ex⟩ := r
  simp only at hk
  subst hk
  have hb0 : 0 ≤ b := hm.2.2.1
  have hb1 : b < 64 := hm.2.2.2.1
  have hgn : g < 4294967296 := hi.gen
  have hs1 : s1 < 18446744073709551616 := hi.seq
  have hs2 : s2 < 4294967296 := hi.serial
  have hse : se < 18446744073709551616 := hi.secret
  have hve : ve < 18446744073709551616 := hi.version
  have hex : ex < 18446744073709551616 := hi.expiry
  clear hm hi
  obtain ⟨b, rfl⟩ : ∃ x : Nat, b = (x : Int) := ⟨b.toNat, by omega⟩
  have hg0 := Going.start (cells ⟨2, b, g, q1, q2, q3, s1, s2, ri, se, ke, va, ve, ex⟩) hown hb
  have HOWN := Lib.hid hown
  clear hown
  simp only [rv, cells] at hg0 ⊢
  have hlen : (bytesOf ⟨2, b, g, q1, q2, q3, s1, s2, ri, se, ke, va, ve, ex⟩).length = 6 := by simp [bytesOf, more, text, put_length, strBytes_length]; try omega
  have HLEN := Lib.hid hlen
  clear hlen
  go_enter Tryz.func66, Tryz.ntmps66
  go_wp2_with fail
  refine (put_any 2 (by omega) 1 (by omega) (by omega) v _ xs base _ hg0.own hg0.size (by omega)).mono ?_
  rintro e w1 ⟨v1, rfl, ho, hon⟩
  have hg1 := hg0.step ho hon.grown
  clear ho hon hg0
  have c1 := hg1.box.cell 1 rfl
  go_wp2_with fail
  refine (put_any b (by omega) 1 (by omega) (by omega) v1 _ (xs ++ put 2 1) base _ hg1.own hg1.size (by omega)).mono ?_
  rintro e w2 ⟨v2, rfl, ho, hon⟩
  have hg2 := hg1.step ho hon.grown
  clear ho hon hg1
  have c2 := hg2.box.cell 2 rfl
  go_wp2_with fail
  refine (put_any g (by omega) 4 (by omega) (by omega) v2 _ ((xs ++ put 2 1) ++ put b 1) base _ hg2.own hg2.size (by omega)).mono ?_
  rintro e w3 ⟨v3, rfl, ho, hon⟩
  have hg3 := hg2.step ho hon.grown
  clear ho hon hg2
  have c0 := hg3.box.cell 0 rfl
  go_wp2_with fail
  go_ret
  refine ⟨_, rfl, ?_, hg3.below⟩
  rw [HLEN.out]
  refine row_eq hg3.own (by omega) ?_
  simp [bytesOf, more, text]
end Go.Proofs.YtkppliljlcihmaaGreatDoor.Rec
namespace Go.Proofs.YtkppliljlcihmaaGreatDoor.Rec
open Go.Proofs.YtkppliljlcihmaaGreatDoor.Mem Go.Proofs.YtkppliljlcihmaaGreatDoor.Pack
open Go.ChangeShapes Go.WideShapes Go.ChangeAt Go.RowKit
set_option linter.unusedVariables false
set_option linter.unusedSimpArgs false

set_option maxRecDepth 100000 in
set_option maxHeartbeats 2000000 in
theorem rbytes_1 (r : Rcd) (hk : r.kind = 1) (hm : May r) (hi : Is r) (v : Value) (len : Nat) (xs : List Int) (base : Nat) (w : World)
    (hown : w.ownsRow base 5 1 v len (cellsOf xs)) (hb : base ≤ w.heap.size) (hl : len ≤ 1000000000) : Calls Tryz.prog 63 #[v, rv r] w fun e w' => Puts base w xs len r e w' := by
  obtain ⟨k, b, g, q1, q2, q3, s1, s2, ri, se, ke, va, ve, ex⟩ := r
  simp only at hk
  subst hk
  have hb0 : 0 ≤ b := hm.2.2.1
  have hb1 : b < 64 := hm.2.2.2.1
  have hgn : g < 4294967296 := hi.gen
  have hs1 : s1 < 18446744073709551616 := hi.seq
  have hs2 : s2 < 4294967296 := hi.serial
  have hse : se < 18446744073709551616 := hi.secret
  have hve : ve < 18446744073709551616 := hi.version
  have hex : ex < 18446744073709551616 := hi.expiry
  have hf : (0 ≤ q1 ∧ q1 ≤ 1099511627776) ∧ (0 ≤ q2 ∧ q2 ≤ 1099511627776) ∧ (0 ≤ q3 ∧ q3 ≤ 1099511627776) := hm.2.2.2.2.2.2
  obtain ⟨⟨hq1, hq1'⟩, ⟨hq2, hq2'⟩, ⟨hq3, hq3'⟩⟩ := hf
  clear hm hi
  obtain ⟨b, rfl⟩ : ∃ x : Nat, b = (x : Int) := ⟨b.toNat, by omega⟩
  obtain ⟨q1, rfl⟩ : ∃ x : Nat, q1 = (x : Int) := ⟨q1.toNat, by omega⟩
  obtain ⟨q2, rfl⟩ : ∃ x : Nat, q2 = (x : Int) := ⟨q2.toNat, by omega⟩
  obtain ⟨q3, rfl⟩ : ∃ x : Nat, q3 = (x : Int) := ⟨q3.toNat, by omega⟩
  have hg0 := Going.start (cells ⟨1, b, g, q1, q2, q3, s1, s2, ri, se, ke, va, ve, ex⟩) hown hb
  have HOWN := Lib.hid hown
  clear hown
  simp only [rv, cells] at hg0 ⊢
  have hlen : (bytesOf ⟨1, b, g, q1, q2, q3, s1, s2, ri, se, ke, va, ve, ex⟩).length = 42 := by simp [bytesOf, more, text, put_length, strBytes_length]; try omega
  have HLEN := Lib.hid hlen
  clear hlen
  obtain ⟨i0, hi0, hz0, hz1, hz2⟩ := info_parts u8_info
  go_enter Tryz.func63, Tryz.ntmps63
  go_wp2_with (at_builtin; refine wpList_append_onto rfl (.tmp 5) (.tmp 12) _ rfl base 5 i0 _ 1 1 Tryz.underlying58 hi0 hz0 hz1 hz2 rfl (by omega) v len (cellsOf xs) rfl (ownsRow_alloc hg0.own _) (.slice (some ⟨w.heap.size + 1, 0, none⟩) 2 2) 2 _ rfl (sees_two _ _ _ _ _ _ (by simp)) (by simp [Value.oneCell']) (by simp only [maxLen]; omega) (by omega) (by have := hg0.size; simp; omega) ?_; intro v1 w1 ho hon; have hg1 := hg0.stepped (ys := xs ++ put 1 1 ++ put b 1) (by rw [put_one 1 (by omega), put_one b (by omega), cellsOf_append, cellsOf_append, List.append_assoc]; exact ho) hon; clear ho hon; have c2 := hg1.box.cell 2 rfl)
  clear hg0
  go_wp2_with fail
  refine (refPut_any g (by omega) 4 (by omega) v1 _ (xs ++ put 1 1 ++ put b 1) base _ hg1.own hg1.size (by omega)).mono ?_
  rintro e w2 ⟨v2, rfl, ho, hon⟩
  have hg2 := hg1.step ho hon.grown
  clear ho hon hg1
  have c3 := hg2.box.cell 3 rfl
  have c0 := hg2.box.cell 0 rfl
  go_wp2_with fail
  refine (refPut_any q1 (by omega) 8 (by omega) v2 _ ((xs ++ put 1 1 ++ put b 1) ++ put g 4) base _ hg2.own hg2.size (by omega)).mono ?_
  rintro e w3 ⟨v3, rfl, ho, hon⟩
  have hg3 := hg2.step ho hon.grown
  clear ho hon hg2
  have c4 := hg3.box.cell 4 rfl
  go_wp2_with fail
  refine (refPut_any q2 (by omega) 8 (by omega) v3 _ (((xs ++ put 1 1 ++ put b 1) ++ put g 4) ++ put q1 8) base _ hg3.own hg3.size (by omega)).mono ?_
  rintro e w4 ⟨v4, rfl, ho, hon⟩
  have hg4 := hg3.step ho hon.grown
  clear ho hon hg3
  have c5 := hg4.box.cell 5 rfl
  go_wp2_with fail
  refine (refPut_any q3 (by omega) 8 (by omega) v4 _ ((((xs ++ put 1 1 ++ put b 1) ++ put g 4) ++ put q1 8) ++ put q2 8) base _ hg4.own hg4.size (by omega)).mono ?_
  rintro e w5 ⟨v5, rfl, ho, hon⟩
  have hg5 := hg4.step ho hon.grown
  clear ho hon hg4
  have c6 := hg5.box.cell 6 rfl
  go_wp2_with fail
  refine (refPut_any s1 (by omega) 8 (by omega) v5 _ (((((xs ++ put 1 1 ++ put b 1) ++ put g 4) ++ put q1 8) ++ put q2 8) ++ put q3 8) base _ hg5.own hg5.size (by omega)).mono ?_
  rintro e w6 ⟨v6, rfl, ho, hon⟩
  have hg6 := hg5.step ho hon.grown
  clear ho hon hg5
  have c7 := hg6.box.cell 7 rfl
  go_wp2_with fail
  refine (refPut_any s2 (by omega) 4 (by omega) v6 _ ((((((xs ++ put 1 1 ++ put b 1) ++ put g 4) ++ put q1 8) ++ put q2 8) ++ put q3 8) ++ put s1 8) base _ hg6.own hg6.size (by omega)).mono ?_
  rintro e w7 ⟨v7, rfl, ho, hon⟩
  have hg7 := hg6.step ho hon.grown
  clear ho hon hg6
  go_wp2_with fail
  go_ret
  refine ⟨_, rfl, ?_, hg7.below⟩
  rw [HLEN.out]
  refine row_eq hg7.own (by omega) ?_
  simp [bytesOf, more, text]
set_option maxRecDepth 100000 in
set_option maxHeartbeats 2000000 in
theorem rbytes_2 (r : Rcd) (hk : r.kind = 2) (hm : May r) (hi : Is r) (v : Value) (len : Nat) (xs : List Int) (base : Nat) (w : World)
    (hown : w.ownsRow base 5 1 v len (cellsOf xs)) (hb : base ≤ w.heap.size) (hl : len ≤ 1000000000) : Calls Tryz.prog 63 #[v, rv r] w fun e w' => Puts base w xs len r e w' := by
  obtain ⟨k, b, g, q1, q2, q3, s1, s2, ri, se, ke, va, ve, ex⟩ := r
  simp only at hk
  subst hk
  have hb0 : 0 ≤ b := hm.2.2.1
  have hb1 : b < 64 := hm.2.2.2.1
  have hgn : g < 4294967296 := hi.gen
  have hs1 : s1 < 18446744073709551616 := hi.seq
  have hs2 : s2 < 4294967296 := hi.serial
  have hse : se < 18446744073709551616 := hi.secret
  have hve : ve < 18446744073709551616 := hi.version
  have hex : ex < 18446744073709551616 := hi.expiry
  clear hm hi
  obtain ⟨b, rfl⟩ : ∃ x : Nat, b = (x : Int) := ⟨b.toNat, by omega⟩
  have hg0 := Going.start (cells ⟨2, b, g, q1, q2, q3, s1, s2, ri, se, ke, va, ve, ex⟩) hown hb
  have HOWN := Lib.hid hown
  clear hown
  simp only [rv, cells] at hg0 ⊢
  have hlen : (bytesOf ⟨2, b, g, q1, q2, q3, s1, s2, ri, se, ke, va, ve, ex⟩).length = 6 := by simp [bytesOf, more, text, put_length, strBytes_length]; try omega
  have HLEN := Lib.hid hlen
  clear hlen
  obtain ⟨i0, hi0, hz0, hz1, hz2⟩ := info_parts u8_info
  go_enter Tryz.func63, Tryz.ntmps63
  go_wp2_with (at_builtin; refine wpList_append_onto rfl (.tmp 5) (.tmp 12) _ rfl base 5 i0 _ 1 1 Tryz.underlying58 hi0 hz0 hz1 hz2 rfl (by omega) v len (cellsOf xs) rfl (ownsRow_alloc hg0.own _) (.slice (some ⟨w.heap.size + 1, 0, none⟩) 2 2) 2 _ rfl (sees_two _ _ _ _ _ _ (by simp)) (by simp [Value.oneCell']) (by simp only [maxLen]; omega) (by omega) (by have := hg0.size; simp; omega) ?_; intro v1 w1 ho hon; have hg1 := hg0.stepped (ys := xs ++ put 2 1 ++ put b 1) (by rw [put_one 2 (by omega), put_one b (by omega), cellsOf_append, cellsOf_append, List.append_assoc]; exact ho) hon; clear ho hon; have c2 := hg1.box.cell 2 rfl)
  clear hg0
  go_wp2_with fail
  refine (refPut_any g (by omega) 4 (by omega) v1 _ (xs ++ put 2 1 ++ put b 1) base _ hg1.own hg1.size (by omega)).mono ?_
  rintro e w2 ⟨v2, rfl, ho, hon⟩
  have hg2 := hg1.step ho hon.grown
  clear ho hon hg1
  have c0 := hg2.box.cell 0 rfl
  go_wp2_with fail
  go_ret
  refine ⟨_, rfl, ?_, hg2.below⟩
  rw [HLEN.out]
  refine row_eq hg2.own (by omega) ?_
  simp [bytesOf, more, text]
end Go.Proofs.YtkppliljlcihmaaGreatDoor.Rec

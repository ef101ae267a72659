/- The document's Token and op. -/
import Derived.Test.YtbdbbnpkekcefaaCmdP
namespace Go.Proofs.Ytbdbbnpkekcefaa.Cmd
open Go.Proofs.Ytbdbbnpkekcefaa.Mem Go.Proofs.Ytbdbbnpkekcefaa.Pack
open Go.ChangeShapes Go.WideShapes Go.ChangeAt Go.RowKit
set_option linter.unusedVariables false
set_option linter.unusedSimpArgs false

set_option maxRecDepth 100000 in
set_option maxHeartbeats 2000000 in
theorem ptok_any (p r bd : Nat) (P : Pos) (bad : Bool) (w : World) (h : PP p r bd w P bad) : Calls Try.prog 25 #[.pointer (some ⟨p, 0, none⟩)] w fun e w' => e = .returned (tv (rdTok P)) ∧ PP p r bd w' (endTok P) bad ∧ But (Both p r) w w' := by
  have hs0 := Pdg.start (t := 29) h #[.int .i64 0, .int .u32 0, .int .u32 0, .int .u64 0]
  have b0 := h.zs
  have b1 := skip_bytes b0 1
  have b2 := skip_bytes b1 4
  have b3 := skip_bytes b2 4
  have b4 := skip_bytes b3 8
  have l1 := num1_lt b0
  have l2 := num4_lt b1
  have l3 := num4_lt b2
  have l4 := num8_lt b3
  have k1 := fun w => rfP_number r bd P 1 (by omega) (by omega) w
  have k2 := fun w => rfP_number r bd (P.skip 1) 4 (by omega) (by omega) w
  have k3 := fun w => rfP_number r bd ((P.skip 1).skip 4) 4 (by omega) (by omega) w
  have k4 := fun w => rfP_number r bd (((P.skip 1).skip 4).skip 4) 8 (by omega) (by omega) w
  unfold tv rdTok endTok
  simp only
  clear b0 h
  obtain ⟨n1, hn1⟩ : ∃ n, n = P.num 1 := ⟨_, rfl⟩
  obtain ⟨p1, hp1⟩ : ∃ x, x = P.skip 1 := ⟨_, rfl⟩
  rw [← hn1] at k1 l1 ⊢
  rw [← hp1] at k1 k2 k3 k4 l2 l3 l4 b1 b2 b3 b4 ⊢
  obtain ⟨n2, hn2⟩ : ∃ n, n = p1.num 4 := ⟨_, rfl⟩
  obtain ⟨p2, hp2⟩ : ∃ x, x = p1.skip 4 := ⟨_, rfl⟩
  rw [← hn2] at k2 l2 ⊢
  rw [← hp2] at k2 k3 k4 l3 l4 b2 b3 b4 ⊢
  obtain ⟨n3, hn3⟩ : ∃ n, n = p2.num 4 := ⟨_, rfl⟩
  obtain ⟨p3, hp3⟩ : ∃ x, x = p2.skip 4 := ⟨_, rfl⟩
  rw [← hn3] at k3 l3 ⊢
  rw [← hp3] at k3 k4 l4 b3 b4 ⊢
  obtain ⟨n4, hn4⟩ : ∃ n, n = p3.num 8 := ⟨_, rfl⟩
  obtain ⟨p4, hp4⟩ : ∃ x, x = p3.skip 8 := ⟨_, rfl⟩
  rw [← hn4] at k4 l4 ⊢
  rw [← hp4] at k4 b4 ⊢
  clear hn1 hn2 hn3 hn4 hp1 hp2 hp3 hp4
  go_enter Try.func25, Try.ntmps25
  have q1 := hs0.pp.c0
  go_wp2_with fail
  clear q1
  refine (k1 _ hs0.pp.rd).mono ?_
  rintro e w1 ⟨rfl, hr, hb⟩
  have hr1 := hs0.read hr hb b1
  clear hr hb hs0 k1
  have c0 : w1.cell? ⟨(w.heap.size + 1), 0, none⟩ = some (.int .i64 0) := hr1.cell 0 rfl
  have f0 : w1.frozen? ⟨(w.heap.size + 1), 0, none⟩ = false := hr1.frozen 0
  have hs1 := hr1.set 0 (.int .i64 (n1 : Int)) (cs' := #[.int .i64 (n1 : Int), .int .u32 0, .int .u32 0, .int .u64 0]) rfl
  clear hr1
  have q2 := hs1.pp.c0
  go_wp2_with fail
  clear q2
  refine (k2 _ hs1.pp.rd).mono ?_
  rintro e w2 ⟨rfl, hr, hb⟩
  have hr2 := hs1.read hr hb b2
  clear hr hb hs1 k2
  have c1 : w2.cell? ⟨(w.heap.size + 1), 1, none⟩ = some (.int .u32 0) := hr2.cell 1 rfl
  have f1 : w2.frozen? ⟨(w.heap.size + 1), 1, none⟩ = false := hr2.frozen 1
  have hs2 := hr2.set 1 (.int .u32 (n2 : Int)) (cs' := #[.int .i64 (n1 : Int), .int .u32 (n2 : Int), .int .u32 0, .int .u64 0]) rfl
  clear hr2
  have q3 := hs2.pp.c0
  go_wp2_with fail
  clear q3
  refine (k3 _ hs2.pp.rd).mono ?_
  rintro e w3 ⟨rfl, hr, hb⟩
  have hr3 := hs2.read hr hb b3
  clear hr hb hs2 k3
  have c2 : w3.cell? ⟨(w.heap.size + 1), 2, none⟩ = some (.int .u32 0) := hr3.cell 2 rfl
  have f2 : w3.frozen? ⟨(w.heap.size + 1), 2, none⟩ = false := hr3.frozen 2
  have hs3 := hr3.set 2 (.int .u32 (n3 : Int)) (cs' := #[.int .i64 (n1 : Int), .int .u32 (n2 : Int), .int .u32 (n3 : Int), .int .u64 0]) rfl
  clear hr3
  have q4 := hs3.pp.c0
  go_wp2_with fail
  clear q4
  refine (k4 _ hs3.pp.rd).mono ?_
  rintro e w4 ⟨rfl, hr, hb⟩
  have hr4 := hs3.read hr hb b4
  clear hr hb hs3 k4
  have c3 : w4.cell? ⟨(w.heap.size + 1), 3, none⟩ = some (.int .u64 0) := hr4.cell 3 rfl
  have f3 : w4.frozen? ⟨(w.heap.size + 1), 3, none⟩ = false := hr4.frozen 3
  have hs4 := hr4.set 3 (.int .u64 (n4 : Int)) (cs' := #[.int .i64 (n1 : Int), .int .u32 (n2 : Int), .int .u32 (n3 : Int), .int .u64 (n4 : Int)]) rfl
  clear hr4
  have HBX := Lib.hid (show _ = _ from hs4.box)
  have HRX := Lib.hid (show _ = _ from hs4.res)
  have HLAST := Lib.hid (hs4.last #[.int .i64 (n1 : Int), .int .u32 (n2 : Int), .int .u32 (n3 : Int), .int .u64 (n4 : Int)])
  clear hs4
  have hone : (#[.int .i64 (n1 : Int), .int .u32 (n2 : Int), .int .u32 (n3 : Int), .int .u64 (n4 : Int)] : Array Value).all (fun x => x.oneCell') = true := by simp [Value.oneCell']
  have HONE := Lib.hid hone
  clear hone
  have HOLD := Lib.hid (show (#[.int .i64 0, .int .u32 0, .int .u32 0, .int .u64 0] : Array Value).size = (#[.int .i64 (n1 : Int), .int .u32 (n2 : Int), .int .u32 (n3 : Int), .int .u64 (n4 : Int)] : Array Value).size by simp)
  have HSZ := Lib.hid (tok_size.trans (show some 4 = some (#[.int .i64 (n1 : Int), .int .u32 (n2 : Int), .int .u32 (n3 : Int), .int .u64 (n4 : Int)] : Array Value).size by simp))
  go_wp2_with (first
    | (refine wpList_load_row rfl 29 _ rfl (w.heap.size + 1) rfl 29 _ (0, 0) _ HBX.out Try.underlying29 rfl HSZ.out ?_)
    | (refine wpList_store_rowTo rfl 29 _ _ rfl rfl w.heap.size #[.int .i64 (n1 : Int), .int .u32 (n2 : Int), .int .u32 (n3 : Int), .int .u64 (n4 : Int)] rfl rfl 29 #[.int .i64 0, .int .u32 0, .int .u32 0, .int .u64 0] HRX.out HSZ.out HOLD.out HONE.out ?_))
  refine bodyPost_ret (results_cell_row rfl _ _ w.heap.size 29 #[.int .i64 (n1 : Int), .int .u32 (n2 : Int), .int .u32 (n3 : Int), .int .u64 (n4 : Int)] (0, 0) _ rfl (setRow_heap _ _ _ _ _ _ HRX.out) Try.underlying29 rfl HSZ.out) rfl ?_
  exact ⟨rfl, HLAST.out⟩
set_option maxRecDepth 100000 in
set_option maxHeartbeats 2000000 in
theorem pop_get (p r bd : Nat) (P p0 p1 p2 p3 p4 : Pos) (bad b0 b1 b3 : Bool) (tag : Int) (d8 del : Bool) (h8 : (tag == 8) = d8) (h9 : (tag == 9) = false) (h7 : (tag == 7) = true) (key val : ByteArray) (cond ttl : Nat) (w : World) (h : PP p r bd w P bad)
    (k1 : ∀ w, PP p r bd w P bad → Calls Try.prog 28 #[.pointer (some ⟨p, 0, none⟩), .int .i64 ((1 : Nat) : Int), .int .i64 ((64 : Nat) : Int)] w fun e w' => e = .returned (.string key) ∧ PP p r bd w' p1 b1 ∧ But (Both p r) w w') :
    Calls Try.prog 27 #[.pointer (some ⟨p, 0, none⟩), .int .i64 tag] w fun e w' => e = .returned (.agg #[.bool d8, .string key, .string ⟨#[]⟩, .int .u64 0, .int .u64 0]) ∧ PP p r bd w' p1 b1 ∧ But (Both p r) w w' := by
  have hsA := Pdg.begun (t := 83) h #[.bool false, .string ⟨#[]⟩, .string ⟨#[]⟩, .int .u64 0, .int .u64 0] #[.bool d8, .string ⟨#[]⟩, .string ⟨#[]⟩, .int .u64 0, .int .u64 0]
  clear h
  go_enter Try.func27, Try.ntmps27
  go_wp2_with fail
  refine (k1 _ hsA.pp).mono ?_
  rintro e w1 ⟨rfl, hp, hb⟩
  have hr1 := hsA.call hp hb
  clear hp hb hsA k1
  have c1 : w1.cell? ⟨(w.heap.size + 1), 1, none⟩ = some (.string ⟨#[]⟩) := hr1.cell 1 rfl
  have f1 : w1.frozen? ⟨(w.heap.size + 1), 1, none⟩ = false := hr1.frozen 1
  have hs1 := hr1.set 1 (.string key) (cs' := #[.bool d8, .string key, .string ⟨#[]⟩, .int .u64 0, .int .u64 0]) rfl
  clear hr1
  have HBX := Lib.hid (show _ = _ from hs1.box)
  have HRX := Lib.hid (show _ = _ from hs1.res)
  have HLAST := Lib.hid (hs1.last #[.bool d8, .string key, .string ⟨#[]⟩, .int .u64 0, .int .u64 0])
  clear hs1
  have hone : (#[.bool d8, .string key, .string ⟨#[]⟩, .int .u64 0, .int .u64 0] : Array Value).all (fun x => x.oneCell') = true := by simp [Value.oneCell']
  have HONE := Lib.hid hone
  clear hone
  have HOLD := Lib.hid (show (#[.bool false, .string ⟨#[]⟩, .string ⟨#[]⟩, .int .u64 0, .int .u64 0] : Array Value).size = (#[.bool d8, .string key, .string ⟨#[]⟩, .int .u64 0, .int .u64 0] : Array Value).size by simp)
  have HSZ := Lib.hid (rop_size.trans (show some 5 = some (#[.bool d8, .string key, .string ⟨#[]⟩, .int .u64 0, .int .u64 0] : Array Value).size by simp))
  go_wp2_with (first
    | (refine wpList_load_row rfl 83 _ rfl (w.heap.size + 1) rfl 83 _ (0, 0) _ HBX.out Try.underlying83 rfl HSZ.out ?_)
    | (refine wpList_store_rowTo rfl 83 _ _ rfl rfl w.heap.size #[.bool d8, .string key, .string ⟨#[]⟩, .int .u64 0, .int .u64 0] rfl rfl 83 #[.bool false, .string ⟨#[]⟩, .string ⟨#[]⟩, .int .u64 0, .int .u64 0] HRX.out HSZ.out HOLD.out HONE.out ?_))
  refine bodyPost_ret (results_cell_row rfl _ _ w.heap.size 83 #[.bool d8, .string key, .string ⟨#[]⟩, .int .u64 0, .int .u64 0] (0, 0) _ rfl (setRow_heap _ _ _ _ _ _ HRX.out) Try.underlying83 rfl HSZ.out) rfl ?_
  exact ⟨rfl, HLAST.out⟩
set_option maxRecDepth 100000 in
set_option maxHeartbeats 2000000 in
theorem pop_del (p r bd : Nat) (P p0 p1 p2 p3 p4 : Pos) (bad b0 b1 b3 : Bool) (tag : Int) (d8 del : Bool) (h8 : (tag == 8) = d8) (h9 : (tag == 9) = false) (h7 : (tag == 7) = false) (hd : d8 = true) (key val : ByteArray) (cond ttl : Nat) (w : World) (h : PP p r bd w P bad)
    (k1 : ∀ w, PP p r bd w P bad → Calls Try.prog 28 #[.pointer (some ⟨p, 0, none⟩), .int .i64 ((1 : Nat) : Int), .int .i64 ((64 : Nat) : Int)] w fun e w' => e = .returned (.string key) ∧ PP p r bd w' p1 b1 ∧ But (Both p r) w w')
    (hz2 : Bytes p2.zs) (k2 : ∀ w, RfP r bd w p1 → Calls Try.prog 24 #[.pointer (some ⟨r, 0, none⟩), .int .i64 ((8 : Nat) : Int)] w fun e w' => e = .returned (.int .u64 (cond : Int)) ∧ RfP r bd w' p2 ∧ But (fun b => b = r) w w') :
    Calls Try.prog 27 #[.pointer (some ⟨p, 0, none⟩), .int .i64 tag] w fun e w' => e = .returned (.agg #[.bool true, .string key, .string ⟨#[]⟩, .int .u64 (cond : Int), .int .u64 0]) ∧ PP p r bd w' p2 b1 ∧ But (Both p r) w w' := by
  have hsA := Pdg.begun (t := 83) h #[.bool false, .string ⟨#[]⟩, .string ⟨#[]⟩, .int .u64 0, .int .u64 0] #[.bool true, .string ⟨#[]⟩, .string ⟨#[]⟩, .int .u64 0, .int .u64 0]
  subst hd
  clear h
  go_enter Try.func27, Try.ntmps27
  go_wp2_with fail
  refine (k1 _ hsA.pp).mono ?_
  rintro e w1 ⟨rfl, hp, hb⟩
  have hr1 := hsA.call hp hb
  clear hp hb hsA k1
  have c1 : w1.cell? ⟨(w.heap.size + 1), 1, none⟩ = some (.string ⟨#[]⟩) := hr1.cell 1 rfl
  have f1 : w1.frozen? ⟨(w.heap.size + 1), 1, none⟩ = false := hr1.frozen 1
  have hs1 := hr1.set 1 (.string key) (cs' := #[.bool true, .string key, .string ⟨#[]⟩, .int .u64 0, .int .u64 0]) rfl
  clear hr1
  have q2 := hs1.pp.c0
  go_wp2_with fail
  clear q2
  refine (k2 _ hs1.pp.rd).mono ?_
  rintro e w2 ⟨rfl, hr, hb⟩
  have hr2 := hs1.read hr hb hz2
  clear hr hb hs1 k2
  have c3 : w2.cell? ⟨(w.heap.size + 1), 3, none⟩ = some (.int .u64 0) := hr2.cell 3 rfl
  have f3 : w2.frozen? ⟨(w.heap.size + 1), 3, none⟩ = false := hr2.frozen 3
  have c0 : w2.cell? ⟨(w.heap.size + 1), 0, none⟩ = some (.bool true) := hr2.cell 0 rfl
  have hs2 := hr2.set 3 (.int .u64 (cond : Int)) (cs' := #[.bool true, .string key, .string ⟨#[]⟩, .int .u64 (cond : Int), .int .u64 0]) rfl
  clear hr2
  have HBX := Lib.hid (show _ = _ from hs2.box)
  have HRX := Lib.hid (show _ = _ from hs2.res)
  have HLAST := Lib.hid (hs2.last #[.bool true, .string key, .string ⟨#[]⟩, .int .u64 (cond : Int), .int .u64 0])
  clear hs2
  have hone : (#[.bool true, .string key, .string ⟨#[]⟩, .int .u64 (cond : Int), .int .u64 0] : Array Value).all (fun x => x.oneCell') = true := by simp [Value.oneCell']
  have HONE := Lib.hid hone
  clear hone
  have HOLD := Lib.hid (show (#[.bool false, .string ⟨#[]⟩, .string ⟨#[]⟩, .int .u64 0, .int .u64 0] : Array Value).size = (#[.bool true, .string key, .string ⟨#[]⟩, .int .u64 (cond : Int), .int .u64 0] : Array Value).size by simp)
  have HSZ := Lib.hid (rop_size.trans (show some 5 = some (#[.bool true, .string key, .string ⟨#[]⟩, .int .u64 (cond : Int), .int .u64 0] : Array Value).size by simp))
  go_wp2_with (first
    | (refine wpList_load_row rfl 83 _ rfl (w.heap.size + 1) rfl 83 _ (0, 0) _ HBX.out Try.underlying83 rfl HSZ.out ?_)
    | (refine wpList_store_rowTo rfl 83 _ _ rfl rfl w.heap.size #[.bool true, .string key, .string ⟨#[]⟩, .int .u64 (cond : Int), .int .u64 0] rfl rfl 83 #[.bool false, .string ⟨#[]⟩, .string ⟨#[]⟩, .int .u64 0, .int .u64 0] HRX.out HSZ.out HOLD.out HONE.out ?_))
  refine bodyPost_ret (results_cell_row rfl _ _ w.heap.size 83 #[.bool true, .string key, .string ⟨#[]⟩, .int .u64 (cond : Int), .int .u64 0] (0, 0) _ rfl (setRow_heap _ _ _ _ _ _ HRX.out) Try.underlying83 rfl HSZ.out) rfl ?_
  exact ⟨rfl, HLAST.out⟩
set_option maxRecDepth 100000 in
set_option maxHeartbeats 2000000 in
theorem pop_put (p r bd : Nat) (P p0 p1 p2 p3 p4 : Pos) (bad b0 b1 b3 : Bool) (tag : Int) (d8 del : Bool) (h8 : (tag == 8) = d8) (h9 : (tag == 9) = false) (h7 : (tag == 7) = false) (hd : d8 = false) (key val : ByteArray) (cond ttl : Nat) (w : World) (h : PP p r bd w P bad)
    (k1 : ∀ w, PP p r bd w P bad → Calls Try.prog 28 #[.pointer (some ⟨p, 0, none⟩), .int .i64 ((1 : Nat) : Int), .int .i64 ((64 : Nat) : Int)] w fun e w' => e = .returned (.string key) ∧ PP p r bd w' p1 b1 ∧ But (Both p r) w w')
    (hz2 : Bytes p2.zs) (k2 : ∀ w, RfP r bd w p1 → Calls Try.prog 24 #[.pointer (some ⟨r, 0, none⟩), .int .i64 ((8 : Nat) : Int)] w fun e w' => e = .returned (.int .u64 (cond : Int)) ∧ RfP r bd w' p2 ∧ But (fun b => b = r) w w')
    (k3 : ∀ w, PP p r bd w p2 b1 → Calls Try.prog 28 #[.pointer (some ⟨p, 0, none⟩), .int .i64 ((0 : Nat) : Int), .int .i64 ((1000 : Nat) : Int)] w fun e w' => e = .returned (.string val) ∧ PP p r bd w' p3 b3 ∧ But (Both p r) w w')
    (hz4 : Bytes p4.zs) (k4 : ∀ w, RfP r bd w p3 → Calls Try.prog 24 #[.pointer (some ⟨r, 0, none⟩), .int .i64 ((8 : Nat) : Int)] w fun e w' => e = .returned (.int .u64 (ttl : Int)) ∧ RfP r bd w' p4 ∧ But (fun b => b = r) w w') :
    Calls Try.prog 27 #[.pointer (some ⟨p, 0, none⟩), .int .i64 tag] w fun e w' => e = .returned (.agg #[.bool false, .string key, .string val, .int .u64 (cond : Int), .int .u64 (ttl : Int)]) ∧ PP p r bd w' p4 b3 ∧ But (Both p r) w w' := by
  have hsA := Pdg.begun (t := 83) h #[.bool false, .string ⟨#[]⟩, .string ⟨#[]⟩, .int .u64 0, .int .u64 0] #[.bool false, .string ⟨#[]⟩, .string ⟨#[]⟩, .int .u64 0, .int .u64 0]
  subst hd
  clear h
  go_enter Try.func27, Try.ntmps27
  go_wp2_with fail
  refine (k1 _ hsA.pp).mono ?_
  rintro e w1 ⟨rfl, hp, hb⟩
  have hr1 := hsA.call hp hb
  clear hp hb hsA k1
  have c1 : w1.cell? ⟨(w.heap.size + 1), 1, none⟩ = some (.string ⟨#[]⟩) := hr1.cell 1 rfl
  have f1 : w1.frozen? ⟨(w.heap.size + 1), 1, none⟩ = false := hr1.frozen 1
  have hs1 := hr1.set 1 (.string key) (cs' := #[.bool false, .string key, .string ⟨#[]⟩, .int .u64 0, .int .u64 0]) rfl
  clear hr1
  have q2 := hs1.pp.c0
  go_wp2_with fail
  clear q2
  refine (k2 _ hs1.pp.rd).mono ?_
  rintro e w2 ⟨rfl, hr, hb⟩
  have hr2 := hs1.read hr hb hz2
  clear hr hb hs1 k2
  have c3 : w2.cell? ⟨(w.heap.size + 1), 3, none⟩ = some (.int .u64 0) := hr2.cell 3 rfl
  have f3 : w2.frozen? ⟨(w.heap.size + 1), 3, none⟩ = false := hr2.frozen 3
  have c0 : w2.cell? ⟨(w.heap.size + 1), 0, none⟩ = some (.bool false) := hr2.cell 0 rfl
  have hs2 := hr2.set 3 (.int .u64 (cond : Int)) (cs' := #[.bool false, .string key, .string ⟨#[]⟩, .int .u64 (cond : Int), .int .u64 0]) rfl
  clear hr2
  go_wp2_with fail
  refine (k3 _ hs2.pp).mono ?_
  rintro e w3 ⟨rfl, hp, hb⟩
  have hr3 := hs2.call hp hb
  clear hp hb hs2 k3
  have c2 : w3.cell? ⟨(w.heap.size + 1), 2, none⟩ = some (.string ⟨#[]⟩) := hr3.cell 2 rfl
  have f2 : w3.frozen? ⟨(w.heap.size + 1), 2, none⟩ = false := hr3.frozen 2
  have hs3 := hr3.set 2 (.string val) (cs' := #[.bool false, .string key, .string val, .int .u64 (cond : Int), .int .u64 0]) rfl
  clear hr3
  have q4 := hs3.pp.c0
  go_wp2_with fail
  clear q4
  refine (k4 _ hs3.pp.rd).mono ?_
  rintro e w4 ⟨rfl, hr, hb⟩
  have hr4 := hs3.read hr hb hz4
  clear hr hb hs3 k4
  have c4 : w4.cell? ⟨(w.heap.size + 1), 4, none⟩ = some (.int .u64 0) := hr4.cell 4 rfl
  have f4 : w4.frozen? ⟨(w.heap.size + 1), 4, none⟩ = false := hr4.frozen 4
  have hs4 := hr4.set 4 (.int .u64 (ttl : Int)) (cs' := #[.bool false, .string key, .string val, .int .u64 (cond : Int), .int .u64 (ttl : Int)]) rfl
  clear hr4
  have HBX := Lib.hid (show _ = _ from hs4.box)
  have HRX := Lib.hid (show _ = _ from hs4.res)
  have HLAST := Lib.hid (hs4.last #[.bool false, .string key, .string val, .int .u64 (cond : Int), .int .u64 (ttl : Int)])
  clear hs4
  have hone : (#[.bool false, .string key, .string val, .int .u64 (cond : Int), .int .u64 (ttl : Int)] : Array Value).all (fun x => x.oneCell') = true := by simp [Value.oneCell']
  have HONE := Lib.hid hone
  clear hone
  have HOLD := Lib.hid (show (#[.bool false, .string ⟨#[]⟩, .string ⟨#[]⟩, .int .u64 0, .int .u64 0] : Array Value).size = (#[.bool false, .string key, .string val, .int .u64 (cond : Int), .int .u64 (ttl : Int)] : Array Value).size by simp)
  have HSZ := Lib.hid (rop_size.trans (show some 5 = some (#[.bool false, .string key, .string val, .int .u64 (cond : Int), .int .u64 (ttl : Int)] : Array Value).size by simp))
  go_wp2_with (first
    | (refine wpList_load_row rfl 83 _ rfl (w.heap.size + 1) rfl 83 _ (0, 0) _ HBX.out Try.underlying83 rfl HSZ.out ?_)
    | (refine wpList_store_rowTo rfl 83 _ _ rfl rfl w.heap.size #[.bool false, .string key, .string val, .int .u64 (cond : Int), .int .u64 (ttl : Int)] rfl rfl 83 #[.bool false, .string ⟨#[]⟩, .string ⟨#[]⟩, .int .u64 0, .int .u64 0] HRX.out HSZ.out HOLD.out HONE.out ?_))
  refine bodyPost_ret (results_cell_row rfl _ _ w.heap.size 83 #[.bool false, .string key, .string val, .int .u64 (cond : Int), .int .u64 (ttl : Int)] (0, 0) _ rfl (setRow_heap _ _ _ _ _ _ HRX.out) Try.underlying83 rfl HSZ.out) rfl ?_
  exact ⟨rfl, HLAST.out⟩
set_option maxRecDepth 100000 in
set_option maxHeartbeats 2000000 in
theorem pop_del9 (p r bd : Nat) (P p0 p1 p2 p3 p4 : Pos) (bad b0 b1 b3 : Bool) (tag : Int) (d8 del : Bool) (h8 : (tag == 8) = d8) (h9 : (tag == 9) = true) (h7 : (tag == 7) = false) (hd : del = true) (key val : ByteArray) (cond ttl : Nat) (w : World) (h : PP p r bd w P bad)
    (k0 : ∀ w, PP p r bd w P bad → Calls Try.prog 29 #[.pointer (some ⟨p, 0, none⟩)] w fun e w' => e = .returned (.bool del) ∧ PP p r bd w' p0 b0 ∧ But (Both p r) w w')
    (k1 : ∀ w, PP p r bd w p0 b0 → Calls Try.prog 28 #[.pointer (some ⟨p, 0, none⟩), .int .i64 ((1 : Nat) : Int), .int .i64 ((64 : Nat) : Int)] w fun e w' => e = .returned (.string key) ∧ PP p r bd w' p1 b1 ∧ But (Both p r) w w')
    (hz2 : Bytes p2.zs) (k2 : ∀ w, RfP r bd w p1 → Calls Try.prog 24 #[.pointer (some ⟨r, 0, none⟩), .int .i64 ((8 : Nat) : Int)] w fun e w' => e = .returned (.int .u64 (cond : Int)) ∧ RfP r bd w' p2 ∧ But (fun b => b = r) w w') :
    Calls Try.prog 27 #[.pointer (some ⟨p, 0, none⟩), .int .i64 tag] w fun e w' => e = .returned (.agg #[.bool true, .string key, .string ⟨#[]⟩, .int .u64 (cond : Int), .int .u64 0]) ∧ PP p r bd w' p2 b1 ∧ But (Both p r) w w' := by
  have hsA := Pdg.begun (t := 83) h #[.bool false, .string ⟨#[]⟩, .string ⟨#[]⟩, .int .u64 0, .int .u64 0] #[.bool d8, .string ⟨#[]⟩, .string ⟨#[]⟩, .int .u64 0, .int .u64 0]
  subst hd
  clear h
  go_enter Try.func27, Try.ntmps27
  go_wp2_with fail
  refine (k0 _ hsA.pp).mono ?_
  rintro e w0 ⟨rfl, hp, hb⟩
  have hr0 := hsA.call hp hb
  clear hp hb hsA k0
  have c0 : w0.cell? ⟨(w.heap.size + 1), 0, none⟩ = some (.bool d8) := hr0.cell 0 rfl
  have f0 : w0.frozen? ⟨(w.heap.size + 1), 0, none⟩ = false := hr0.frozen 0
  have hs0 := hr0.set 0 (.bool true) (cs' := #[.bool true, .string ⟨#[]⟩, .string ⟨#[]⟩, .int .u64 0, .int .u64 0]) rfl
  clear hr0
  go_wp2_with fail
  refine (k1 _ hs0.pp).mono ?_
  rintro e w1 ⟨rfl, hp, hb⟩
  have hr1 := hs0.call hp hb
  clear hp hb hs0 k1
  have c1 : w1.cell? ⟨(w.heap.size + 1), 1, none⟩ = some (.string ⟨#[]⟩) := hr1.cell 1 rfl
  have f1 : w1.frozen? ⟨(w.heap.size + 1), 1, none⟩ = false := hr1.frozen 1
  have hs1 := hr1.set 1 (.string key) (cs' := #[.bool true, .string key, .string ⟨#[]⟩, .int .u64 0, .int .u64 0]) rfl
  clear hr1
  have q2 := hs1.pp.c0
  go_wp2_with fail
  clear q2
  refine (k2 _ hs1.pp.rd).mono ?_
  rintro e w2 ⟨rfl, hr, hb⟩
  have hr2 := hs1.read hr hb hz2
  clear hr hb hs1 k2
  have c3 : w2.cell? ⟨(w.heap.size + 1), 3, none⟩ = some (.int .u64 0) := hr2.cell 3 rfl
  have f3 : w2.frozen? ⟨(w.heap.size + 1), 3, none⟩ = false := hr2.frozen 3
  have c0 : w2.cell? ⟨(w.heap.size + 1), 0, none⟩ = some (.bool true) := hr2.cell 0 rfl
  have hs2 := hr2.set 3 (.int .u64 (cond : Int)) (cs' := #[.bool true, .string key, .string ⟨#[]⟩, .int .u64 (cond : Int), .int .u64 0]) rfl
  clear hr2
  have HBX := Lib.hid (show _ = _ from hs2.box)
  have HRX := Lib.hid (show _ = _ from hs2.res)
  have HLAST := Lib.hid (hs2.last #[.bool true, .string key, .string ⟨#[]⟩, .int .u64 (cond : Int), .int .u64 0])
  clear hs2
  have hone : (#[.bool true, .string key, .string ⟨#[]⟩, .int .u64 (cond : Int), .int .u64 0] : Array Value).all (fun x => x.oneCell') = true := by simp [Value.oneCell']
  have HONE := Lib.hid hone
  clear hone
  have HOLD := Lib.hid (show (#[.bool false, .string ⟨#[]⟩, .string ⟨#[]⟩, .int .u64 0, .int .u64 0] : Array Value).size = (#[.bool true, .string key, .string ⟨#[]⟩, .int .u64 (cond : Int), .int .u64 0] : Array Value).size by simp)
  have HSZ := Lib.hid (rop_size.trans (show some 5 = some (#[.bool true, .string key, .string ⟨#[]⟩, .int .u64 (cond : Int), .int .u64 0] : Array Value).size by simp))
  go_wp2_with (first
    | (refine wpList_load_row rfl 83 _ rfl (w.heap.size + 1) rfl 83 _ (0, 0) _ HBX.out Try.underlying83 rfl HSZ.out ?_)
    | (refine wpList_store_rowTo rfl 83 _ _ rfl rfl w.heap.size #[.bool true, .string key, .string ⟨#[]⟩, .int .u64 (cond : Int), .int .u64 0] rfl rfl 83 #[.bool false, .string ⟨#[]⟩, .string ⟨#[]⟩, .int .u64 0, .int .u64 0] HRX.out HSZ.out HOLD.out HONE.out ?_))
  refine bodyPost_ret (results_cell_row rfl _ _ w.heap.size 83 #[.bool true, .string key, .string ⟨#[]⟩, .int .u64 (cond : Int), .int .u64 0] (0, 0) _ rfl (setRow_heap _ _ _ _ _ _ HRX.out) Try.underlying83 rfl HSZ.out) rfl ?_
  exact ⟨rfl, HLAST.out⟩
set_option maxRecDepth 100000 in
set_option maxHeartbeats 2000000 in
theorem pop_put9 (p r bd : Nat) (P p0 p1 p2 p3 p4 : Pos) (bad b0 b1 b3 : Bool) (tag : Int) (d8 del : Bool) (h8 : (tag == 8) = d8) (h9 : (tag == 9) = true) (h7 : (tag == 7) = false) (hd : del = false) (key val : ByteArray) (cond ttl : Nat) (w : World) (h : PP p r bd w P bad)
    (k0 : ∀ w, PP p r bd w P bad → Calls Try.prog 29 #[.pointer (some ⟨p, 0, none⟩)] w fun e w' => e = .returned (.bool del) ∧ PP p r bd w' p0 b0 ∧ But (Both p r) w w')
    (k1 : ∀ w, PP p r bd w p0 b0 → Calls Try.prog 28 #[.pointer (some ⟨p, 0, none⟩), .int .i64 ((1 : Nat) : Int), .int .i64 ((64 : Nat) : Int)] w fun e w' => e = .returned (.string key) ∧ PP p r bd w' p1 b1 ∧ But (Both p r) w w')
    (hz2 : Bytes p2.zs) (k2 : ∀ w, RfP r bd w p1 → Calls Try.prog 24 #[.pointer (some ⟨r, 0, none⟩), .int .i64 ((8 : Nat) : Int)] w fun e w' => e = .returned (.int .u64 (cond : Int)) ∧ RfP r bd w' p2 ∧ But (fun b => b = r) w w')
    (k3 : ∀ w, PP p r bd w p2 b1 → Calls Try.prog 28 #[.pointer (some ⟨p, 0, none⟩), .int .i64 ((0 : Nat) : Int), .int .i64 ((1000 : Nat) : Int)] w fun e w' => e = .returned (.string val) ∧ PP p r bd w' p3 b3 ∧ But (Both p r) w w')
    (hz4 : Bytes p4.zs) (k4 : ∀ w, RfP r bd w p3 → Calls Try.prog 24 #[.pointer (some ⟨r, 0, none⟩), .int .i64 ((8 : Nat) : Int)] w fun e w' => e = .returned (.int .u64 (ttl : Int)) ∧ RfP r bd w' p4 ∧ But (fun b => b = r) w w') :
    Calls Try.prog 27 #[.pointer (some ⟨p, 0, none⟩), .int .i64 tag] w fun e w' => e = .returned (.agg #[.bool false, .string key, .string val, .int .u64 (cond : Int), .int .u64 (ttl : Int)]) ∧ PP p r bd w' p4 b3 ∧ But (Both p r) w w' := by
  have hsA := Pdg.begun (t := 83) h #[.bool false, .string ⟨#[]⟩, .string ⟨#[]⟩, .int .u64 0, .int .u64 0] #[.bool d8, .string ⟨#[]⟩, .string ⟨#[]⟩, .int .u64 0, .int .u64 0]
  subst hd
  clear h
  go_enter Try.func27, Try.ntmps27
  go_wp2_with fail
  refine (k0 _ hsA.pp).mono ?_
  rintro e w0 ⟨rfl, hp, hb⟩
  have hr0 := hsA.call hp hb
  clear hp hb hsA k0
  have c0 : w0.cell? ⟨(w.heap.size + 1), 0, none⟩ = some (.bool d8) := hr0.cell 0 rfl
  have f0 : w0.frozen? ⟨(w.heap.size + 1), 0, none⟩ = false := hr0.frozen 0
  have hs0 := hr0.set 0 (.bool false) (cs' := #[.bool false, .string ⟨#[]⟩, .string ⟨#[]⟩, .int .u64 0, .int .u64 0]) rfl
  clear hr0
  go_wp2_with fail
  refine (k1 _ hs0.pp).mono ?_
  rintro e w1 ⟨rfl, hp, hb⟩
  have hr1 := hs0.call hp hb
  clear hp hb hs0 k1
  have c1 : w1.cell? ⟨(w.heap.size + 1), 1, none⟩ = some (.string ⟨#[]⟩) := hr1.cell 1 rfl
  have f1 : w1.frozen? ⟨(w.heap.size + 1), 1, none⟩ = false := hr1.frozen 1
  have hs1 := hr1.set 1 (.string key) (cs' := #[.bool false, .string key, .string ⟨#[]⟩, .int .u64 0, .int .u64 0]) rfl
  clear hr1
  have q2 := hs1.pp.c0
  go_wp2_with fail
  clear q2
  refine (k2 _ hs1.pp.rd).mono ?_
  rintro e w2 ⟨rfl, hr, hb⟩
  have hr2 := hs1.read hr hb hz2
  clear hr hb hs1 k2
  have c3 : w2.cell? ⟨(w.heap.size + 1), 3, none⟩ = some (.int .u64 0) := hr2.cell 3 rfl
  have f3 : w2.frozen? ⟨(w.heap.size + 1), 3, none⟩ = false := hr2.frozen 3
  have c0 : w2.cell? ⟨(w.heap.size + 1), 0, none⟩ = some (.bool false) := hr2.cell 0 rfl
  have hs2 := hr2.set 3 (.int .u64 (cond : Int)) (cs' := #[.bool false, .string key, .string ⟨#[]⟩, .int .u64 (cond : Int), .int .u64 0]) rfl
  clear hr2
  go_wp2_with fail
  refine (k3 _ hs2.pp).mono ?_
  rintro e w3 ⟨rfl, hp, hb⟩
  have hr3 := hs2.call hp hb
  clear hp hb hs2 k3
  have c2 : w3.cell? ⟨(w.heap.size + 1), 2, none⟩ = some (.string ⟨#[]⟩) := hr3.cell 2 rfl
  have f2 : w3.frozen? ⟨(w.heap.size + 1), 2, none⟩ = false := hr3.frozen 2
  have hs3 := hr3.set 2 (.string val) (cs' := #[.bool false, .string key, .string val, .int .u64 (cond : Int), .int .u64 0]) rfl
  clear hr3
  have q4 := hs3.pp.c0
  go_wp2_with fail
  clear q4
  refine (k4 _ hs3.pp.rd).mono ?_
  rintro e w4 ⟨rfl, hr, hb⟩
  have hr4 := hs3.read hr hb hz4
  clear hr hb hs3 k4
  have c4 : w4.cell? ⟨(w.heap.size + 1), 4, none⟩ = some (.int .u64 0) := hr4.cell 4 rfl
  have f4 : w4.frozen? ⟨(w.heap.size + 1), 4, none⟩ = false := hr4.frozen 4
  have hs4 := hr4.set 4 (.int .u64 (ttl : Int)) (cs' := #[.bool false, .string key, .string val, .int .u64 (cond : Int), .int .u64 (ttl : Int)]) rfl
  clear hr4
  have HBX := Lib.hid (show _ = _ from hs4.box)
  have HRX := Lib.hid (show _ = _ from hs4.res)
  have HLAST := Lib.hid (hs4.last #[.bool false, .string key, .string val, .int .u64 (cond : Int), .int .u64 (ttl : Int)])
  clear hs4
  have hone : (#[.bool false, .string key, .string val, .int .u64 (cond : Int), .int .u64 (ttl : Int)] : Array Value).all (fun x => x.oneCell') = true := by simp [Value.oneCell']
  have HONE := Lib.hid hone
  clear hone
  have HOLD := Lib.hid (show (#[.bool false, .string ⟨#[]⟩, .string ⟨#[]⟩, .int .u64 0, .int .u64 0] : Array Value).size = (#[.bool false, .string key, .string val, .int .u64 (cond : Int), .int .u64 (ttl : Int)] : Array Value).size by simp)
  have HSZ := Lib.hid (rop_size.trans (show some 5 = some (#[.bool false, .string key, .string val, .int .u64 (cond : Int), .int .u64 (ttl : Int)] : Array Value).size by simp))
  go_wp2_with (first
    | (refine wpList_load_row rfl 83 _ rfl (w.heap.size + 1) rfl 83 _ (0, 0) _ HBX.out Try.underlying83 rfl HSZ.out ?_)
    | (refine wpList_store_rowTo rfl 83 _ _ rfl rfl w.heap.size #[.bool false, .string key, .string val, .int .u64 (cond : Int), .int .u64 (ttl : Int)] rfl rfl 83 #[.bool false, .string ⟨#[]⟩, .string ⟨#[]⟩, .int .u64 0, .int .u64 0] HRX.out HSZ.out HOLD.out HONE.out ?_))
  refine bodyPost_ret (results_cell_row rfl _ _ w.heap.size 83 #[.bool false, .string key, .string val, .int .u64 (cond : Int), .int .u64 (ttl : Int)] (0, 0) _ rfl (setRow_heap _ _ _ _ _ _ HRX.out) Try.underlying83 rfl HSZ.out) rfl ?_
  exact ⟨rfl, HLAST.out⟩
end Go.Proofs.Ytbdbbnpkekcefaa.Cmd

/- What is read next: flags, tokens, quotas, ops. -/
import Derived.Test.YtbdbbnpkekcefaaCmdWalk
namespace Go.Proofs.Ytbdbbnpkekcefaa.Cmd
open Go.Proofs.Ytbdbbnpkekcefaa.Mem Go.Proofs.Ytbdbbnpkekcefaa.Pack
open Go.ChangeShapes Go.WideShapes Go.ChangeAt Go.RowKit
set_option linter.unusedVariables false
set_option linter.unusedSimpArgs false

theorem cast_beq (n m : Nat) : (((n : Nat) : Int) == (m : Int)) = (n == m) := by
  rw [Bool.eq_iff_iff]; simp; omega
theorem nextFlag_any (p D : Nat) (P : Pos) (w : World) (h : RdP p D w P) : Calls Try.prog 48 #[.pointer (some ⟨p, 0, none⟩)] w fun e w' => e = .returned (.bool (isDel P)) ∧ RdP p D w' (P.skip 1) ∧ But (fun b => b = p) w w' := by
  have k := rdP_number p D P 1 (by omega) (by omega) w h
  have hd : isDel P = (((P.num 1 : Nat) : Int) == 1) := (cast_beq _ 1).symm
  rw [hd]
  obtain ⟨n, hn⟩ : ∃ n, n = P.num 1 := ⟨_, rfl⟩
  rw [← hn] at k ⊢
  clear hn hd
  go_enter Try.func48, Try.ntmps48
  go_wp2_with fail
  refine k.mono ?_
  rintro e w1 ⟨rfl, hr, hb⟩
  clear k
  go_wp2_with fail
  go_ret
  exact ⟨rfl, hr, hb⟩
theorem nextMeasure_any (p D : Nat) (P : Pos) (w : World) (h : RdP p D w P) : Calls Try.prog 61 #[.pointer (some ⟨p, 0, none⟩)] w fun e w' => e = .returned (.int .i64 (sgn (P.num 8))) ∧ RdP p D w' (P.skip 8) ∧ But (fun b => b = p) w w' := by
  have k := rdP_number p D P 8 (by omega) (by omega) w h
  have hd : sgn (P.num 8) = wrap64 ((P.num 8 : Nat) : Int) := rfl
  rw [hd]
  obtain ⟨n, hn⟩ : ∃ n, n = P.num 8 := ⟨_, rfl⟩
  rw [← hn] at k ⊢
  clear hn hd
  go_enter Try.func61, Try.ntmps61
  go_wp2_with fail
  refine k.mono ?_
  rintro e w1 ⟨rfl, hr, hb⟩
  clear k
  go_wp2_with fail
  go_ret
  exact ⟨rfl, hr, hb⟩
set_option maxRecDepth 100000 in
set_option maxHeartbeats 2000000 in
theorem nextToken_any (p D : Nat) (P : Pos) (w : World) (h : RdP p D w P) (hD : D < w.heap.size) : Calls Try.prog 45 #[.pointer (some ⟨p, 0, none⟩)] w fun e w' => e = .returned (tv (rdTok P)) ∧ RdP p D w' (endTok P) ∧ But (fun b => b = p) w w' := by
  have hs0 := Rdg.start (t := 29) h h.lt hD #[.int .i64 0, .int .u32 0, .int .u32 0, .int .u64 0]
  have b0 := h.bytes
  have b1 := skip_bytes b0 1
  have b2 := skip_bytes b1 4
  have b3 := skip_bytes b2 4
  have l1 := num1_lt b0
  have l2 := num4_lt b1
  have l3 := num4_lt b2
  have l4 := num8_lt b3
  have k1 := fun w => rdP_number p D P 1 (by omega) (by omega) w
  have k2 := fun w => rdP_number p D (P.skip 1) 4 (by omega) (by omega) w
  have k3 := fun w => rdP_number p D ((P.skip 1).skip 4) 4 (by omega) (by omega) w
  have k4 := fun w => rdP_number p D (((P.skip 1).skip 4).skip 4) 8 (by omega) (by omega) w
  unfold tv rdTok endTok
  simp only
  clear b0 b1 b2 b3 h
  obtain ⟨n1, hn1⟩ : ∃ n, n = P.num 1 := ⟨_, rfl⟩
  obtain ⟨p1, hp1⟩ : ∃ x, x = P.skip 1 := ⟨_, rfl⟩
  rw [← hn1] at k1 l1 ⊢
  rw [← hp1] at k1 k2 k3 k4 l2 l3 l4 ⊢
  obtain ⟨n2, hn2⟩ : ∃ n, n = p1.num 4 := ⟨_, rfl⟩
  obtain ⟨p2, hp2⟩ : ∃ x, x = p1.skip 4 := ⟨_, rfl⟩
  rw [← hn2] at k2 l2 ⊢
  rw [← hp2] at k2 k3 k4 l3 l4 ⊢
  obtain ⟨n3, hn3⟩ : ∃ n, n = p2.num 4 := ⟨_, rfl⟩
  obtain ⟨p3, hp3⟩ : ∃ x, x = p2.skip 4 := ⟨_, rfl⟩
  rw [← hn3] at k3 l3 ⊢
  rw [← hp3] at k3 k4 l4 ⊢
  obtain ⟨n4, hn4⟩ : ∃ n, n = p3.num 8 := ⟨_, rfl⟩
  rw [← hn4] at k4 l4 ⊢
  clear hn1 hn2 hn3 hn4 hp1 hp2 hp3
  go_enter Try.func45, Try.ntmps45
  go_wp2_with fail
  refine (k1 _ hs0.rd).mono ?_
  rintro e w1 ⟨rfl, hr, hb⟩
  have hr1 := hs0.read hr hb
  clear hr hb hs0 k1
  have c0 : w1.cell? ⟨(w.heap.size + 1), 0, none⟩ = some (.int .i64 0) := hr1.cell 0 rfl
  have f0 : w1.frozen? ⟨(w.heap.size + 1), 0, none⟩ = false := hr1.frozen 0
  have hs1 := hr1.set 0 (.int .i64 (n1 : Int)) (cs' := #[.int .i64 (n1 : Int), .int .u32 0, .int .u32 0, .int .u64 0]) rfl
  clear hr1
  go_wp2_with fail
  refine (k2 _ hs1.rd).mono ?_
  rintro e w2 ⟨rfl, hr, hb⟩
  have hr2 := hs1.read hr hb
  clear hr hb hs1 k2
  have c1 : w2.cell? ⟨(w.heap.size + 1), 1, none⟩ = some (.int .u32 0) := hr2.cell 1 rfl
  have f1 : w2.frozen? ⟨(w.heap.size + 1), 1, none⟩ = false := hr2.frozen 1
  have hs2 := hr2.set 1 (.int .u32 (n2 : Int)) (cs' := #[.int .i64 (n1 : Int), .int .u32 (n2 : Int), .int .u32 0, .int .u64 0]) rfl
  clear hr2
  go_wp2_with fail
  refine (k3 _ hs2.rd).mono ?_
  rintro e w3 ⟨rfl, hr, hb⟩
  have hr3 := hs2.read hr hb
  clear hr hb hs2 k3
  have c2 : w3.cell? ⟨(w.heap.size + 1), 2, none⟩ = some (.int .u32 0) := hr3.cell 2 rfl
  have f2 : w3.frozen? ⟨(w.heap.size + 1), 2, none⟩ = false := hr3.frozen 2
  have hs3 := hr3.set 2 (.int .u32 (n3 : Int)) (cs' := #[.int .i64 (n1 : Int), .int .u32 (n2 : Int), .int .u32 (n3 : Int), .int .u64 0]) rfl
  clear hr3
  go_wp2_with fail
  refine (k4 _ hs3.rd).mono ?_
  rintro e w4 ⟨rfl, hr, hb⟩
  have hr4 := hs3.read hr hb
  clear hr hb hs3 k4
  have c3 : w4.cell? ⟨(w.heap.size + 1), 3, none⟩ = some (.int .u64 0) := hr4.cell 3 rfl
  have f3 : w4.frozen? ⟨(w.heap.size + 1), 3, none⟩ = false := hr4.frozen 3
  have hs4 := hr4.set 3 (.int .u64 (n4 : Int)) (cs' := #[.int .i64 (n1 : Int), .int .u32 (n2 : Int), .int .u32 (n3 : Int), .int .u64 (n4 : Int)]) rfl
  clear hr4
  have HBX := Lib.hid (show _ = _ from hs4.box)
  have HRX := Lib.hid (show _ = _ from hs4.res)
  have HLAST := Lib.hid (hs4.last #[.int .i64 (n1 : Int), .int .u32 (n2 : Int), .int .u32 (n3 : Int), .int .u64 (n4 : Int)])
  clear hs4
  have hone : (#[.int .i64 (n1 : Int), .int .u32 (n2 : Int), .int .u32 (n3 : Int), .int .u64 (n4 : Int)] : Array Value).all (fun x => x.oneCell') = true := by simp [Value.oneCell']
  have HONE := Lib.hid hone
  clear hone
  have HOLD := Lib.hid (show (#[.int .i64 0, .int .u32 0, .int .u32 0, .int .u64 0] : Array Value).size = (#[.int .i64 (n1 : Int), .int .u32 (n2 : Int), .int .u32 (n3 : Int), .int .u64 (n4 : Int)] : Array Value).size by simp)
  have HSZ := Lib.hid (tok_size.trans (show some 4 = some (#[.int .i64 (n1 : Int), .int .u32 (n2 : Int), .int .u32 (n3 : Int), .int .u64 (n4 : Int)] : Array Value).size by simp))
  go_wp2_with (first
    | (refine wpList_load_row rfl 29 _ rfl (w.heap.size + 1) rfl 29 _ (0, 0) _ HBX.out Try.underlying29 rfl HSZ.out ?_)
    | (refine wpList_store_rowTo rfl 29 _ _ rfl rfl w.heap.size #[.int .i64 (n1 : Int), .int .u32 (n2 : Int), .int .u32 (n3 : Int), .int .u64 (n4 : Int)] rfl rfl 29 #[.int .i64 0, .int .u32 0, .int .u32 0, .int .u64 0] HRX.out HSZ.out HOLD.out HONE.out ?_))
  refine bodyPost_ret (results_cell_row rfl _ _ w.heap.size 29 #[.int .i64 (n1 : Int), .int .u32 (n2 : Int), .int .u32 (n3 : Int), .int .u64 (n4 : Int)] (0, 0) _ rfl (setRow_heap _ _ _ _ _ _ HRX.out) Try.underlying29 rfl HSZ.out) rfl ?_
  exact ⟨rfl, HLAST.out⟩
set_option maxRecDepth 100000 in
set_option maxHeartbeats 2000000 in
theorem nextQuota_any (p D : Nat) (P : Pos) (w : World) (h : RdP p D w P) (hD : D < w.heap.size) : Calls Try.prog 44 #[.pointer (some ⟨p, 0, none⟩)] w fun e w' => e = .returned (qv (rdQuo P)) ∧ RdP p D w' (endQuo P) ∧ But (fun b => b = p) w w' := by
  have hs0 := Rdg.start (t := 26) h h.lt hD #[.int .i64 0, .int .i64 0, .int .i64 0]
  have k1 := fun w => nextMeasure_any p D P w
  have k2 := fun w => nextMeasure_any p D (P.skip 8) w
  have k3 := fun w => nextMeasure_any p D ((P.skip 8).skip 8) w
  unfold qv rdQuo endQuo
  simp only
  clear h
  obtain ⟨p1, hp1⟩ : ∃ x, x = P.skip 8 := ⟨_, rfl⟩
  rw [← hp1] at k1 k2 k3 ⊢
  obtain ⟨p2, hp2⟩ : ∃ x, x = p1.skip 8 := ⟨_, rfl⟩
  rw [← hp2] at k2 k3 ⊢
  obtain ⟨z1, hz1⟩ : ∃ n, n = sgn (P.num 8) := ⟨_, rfl⟩
  obtain ⟨z2, hz2⟩ : ∃ n, n = sgn (p1.num 8) := ⟨_, rfl⟩
  obtain ⟨z3, hz3⟩ : ∃ n, n = sgn (p2.num 8) := ⟨_, rfl⟩
  rw [← hz1] at k1 ⊢
  rw [← hz2] at k2 ⊢
  rw [← hz3] at k3 ⊢
  clear hz1 hz2 hz3 hp1 hp2
  go_enter Try.func44, Try.ntmps44
  go_wp2_with fail
  refine (k1 _ hs0.rd).mono ?_
  rintro e w1 ⟨rfl, hr, hb⟩
  have hr1 := hs0.read hr hb
  clear hr hb hs0 k1
  have c0 : w1.cell? ⟨(w.heap.size + 1), 0, none⟩ = some (.int .i64 0) := hr1.cell 0 rfl
  have f0 : w1.frozen? ⟨(w.heap.size + 1), 0, none⟩ = false := hr1.frozen 0
  have hs1 := hr1.set 0 (.int .i64 z1) (cs' := #[.int .i64 z1, .int .i64 0, .int .i64 0]) rfl
  clear hr1
  go_wp2_with fail
  refine (k2 _ hs1.rd).mono ?_
  rintro e w2 ⟨rfl, hr, hb⟩
  have hr2 := hs1.read hr hb
  clear hr hb hs1 k2
  have c1 : w2.cell? ⟨(w.heap.size + 1), 1, none⟩ = some (.int .i64 0) := hr2.cell 1 rfl
  have f1 : w2.frozen? ⟨(w.heap.size + 1), 1, none⟩ = false := hr2.frozen 1
  have hs2 := hr2.set 1 (.int .i64 z2) (cs' := #[.int .i64 z1, .int .i64 z2, .int .i64 0]) rfl
  clear hr2
  go_wp2_with fail
  refine (k3 _ hs2.rd).mono ?_
  rintro e w3 ⟨rfl, hr, hb⟩
  have hr3 := hs2.read hr hb
  clear hr hb hs2 k3
  have c2 : w3.cell? ⟨(w.heap.size + 1), 2, none⟩ = some (.int .i64 0) := hr3.cell 2 rfl
  have f2 : w3.frozen? ⟨(w.heap.size + 1), 2, none⟩ = false := hr3.frozen 2
  have hs3 := hr3.set 2 (.int .i64 z3) (cs' := #[.int .i64 z1, .int .i64 z2, .int .i64 z3]) rfl
  clear hr3
  have HBX := Lib.hid (show _ = _ from hs3.box)
  have HRX := Lib.hid (show _ = _ from hs3.res)
  have HLAST := Lib.hid (hs3.last #[.int .i64 z1, .int .i64 z2, .int .i64 z3])
  clear hs3
  have hone : (#[.int .i64 z1, .int .i64 z2, .int .i64 z3] : Array Value).all (fun x => x.oneCell') = true := by simp [Value.oneCell']
  have HONE := Lib.hid hone
  clear hone
  have HOLD := Lib.hid (show (#[.int .i64 0, .int .i64 0, .int .i64 0] : Array Value).size = (#[.int .i64 z1, .int .i64 z2, .int .i64 z3] : Array Value).size by simp)
  have HSZ := Lib.hid (quo_size.trans (show some 3 = some (#[.int .i64 z1, .int .i64 z2, .int .i64 z3] : Array Value).size by simp))
  go_wp2_with (first
    | (refine wpList_load_row rfl 26 _ rfl (w.heap.size + 1) rfl 26 _ (0, 0) _ HBX.out Try.underlying26 rfl HSZ.out ?_)
    | (refine wpList_store_rowTo rfl 26 _ _ rfl rfl w.heap.size #[.int .i64 z1, .int .i64 z2, .int .i64 z3] rfl rfl 26 #[.int .i64 0, .int .i64 0, .int .i64 0] HRX.out HSZ.out HOLD.out HONE.out ?_))
  refine bodyPost_ret (results_cell_row rfl _ _ w.heap.size 26 #[.int .i64 z1, .int .i64 z2, .int .i64 z3] (0, 0) _ rfl (setRow_heap _ _ _ _ _ _ HRX.out) Try.underlying26 rfl HSZ.out) rfl ?_
  exact ⟨rfl, HLAST.out⟩
set_option maxRecDepth 100000 in
set_option maxHeartbeats 2000000 in
theorem nextOp_get (p D : Nat) (P p1 p2 p3 p4 : Pos) (tag : Int) (del : Bool) (h7 : (tag == 7) = true) (key val : ByteArray) (cond ttl : Nat) (w : World) (h : RdP p D w P) (hD : D < w.heap.size)
    (k1 : ∀ w, RdP p D w P → Calls Try.prog 47 #[.pointer (some ⟨p, 0, none⟩)] w fun e w' => e = .returned (.string key) ∧ RdP p D w' p1 ∧ But (fun b => b = p) w w') :
    Calls Try.prog 63 #[.pointer (some ⟨p, 0, none⟩), .int .i64 tag, .bool del] w fun e w' => e = .returned (.agg #[.bool del, .string key, .string ⟨#[]⟩, .int .u64 0, .int .u64 0]) ∧ RdP p D w' p1 ∧ But (fun b => b = p) w w' := by
  have hp := h.lt
  have ha : RdP p D (w.alloc (.cells #[.bool false, .string ⟨#[]⟩, .string ⟨#[]⟩, .int .u64 0, .int .u64 0] 87)) P := Rd.but (S := fun _ => False) h ((But.refl _ w).alloc _) (fun e => e) (fun e => e)
  have hres0 : Blk (w.alloc (.cells #[.bool false, .string ⟨#[]⟩, .string ⟨#[]⟩, .int .u64 0, .int .u64 0] 87)) w.heap.size 87 #[.bool false, .string ⟨#[]⟩, .string ⟨#[]⟩, .int .u64 0, .int .u64 0] := Blk.new _ _ _
  have hbut0 : But (fun k => k = p) w (w.alloc (.cells #[.bool false, .string ⟨#[]⟩, .string ⟨#[]⟩, .int .u64 0, .int .u64 0] 87)) := (But.refl _ w).alloc _
  clear h
  go_enter Try.func63, Try.ntmps63
  go_wp2_with fail
  refine (k1 _ ha).mono ?_
  rintro e w1 ⟨rfl, hr, hb⟩
  have hres1 := hres0.but hb (fun e => by omega)
  have hbut1 := hbut0.trans' hb
  have hD1 : D < w1.heap.size := Nat.lt_of_lt_of_le hD hbut1.size
  have hs0 := Rdg.begin hr hres1 hbut1 (Nat.le_refl _) (by omega) hD1 #[.bool del, .string key, .string ⟨#[]⟩, .int .u64 0, .int .u64 0]
  have hpp : w.heap.size < w1.heap.size := hres1.lt
  clear ha hres0 hbut0 hr hb hres1 hbut1 hD1 k1
  have HBX := Lib.hid (show _ = _ from hs0.box)
  have HRX := Lib.hid (show _ = _ from hs0.res)
  have HLAST := Lib.hid (hs0.last #[.bool del, .string key, .string ⟨#[]⟩, .int .u64 0, .int .u64 0])
  clear hs0
  have hone : (#[.bool del, .string key, .string ⟨#[]⟩, .int .u64 0, .int .u64 0] : Array Value).all (fun x => x.oneCell') = true := by simp [Value.oneCell']
  have HONE := Lib.hid hone
  clear hone
  have HOLD := Lib.hid (show (#[.bool false, .string ⟨#[]⟩, .string ⟨#[]⟩, .int .u64 0, .int .u64 0] : Array Value).size = (#[.bool del, .string key, .string ⟨#[]⟩, .int .u64 0, .int .u64 0] : Array Value).size by simp)
  have HSZ := Lib.hid (op_size.trans (show some 5 = some (#[.bool del, .string key, .string ⟨#[]⟩, .int .u64 0, .int .u64 0] : Array Value).size by simp))
  go_wp2_with (first
    | (refine wpList_load_row rfl 87 _ rfl w1.heap.size rfl 87 _ (0, 0) _ HBX.out Try.underlying87 rfl HSZ.out ?_)
    | (refine wpList_store_rowTo rfl 87 _ _ rfl rfl w.heap.size #[.bool del, .string key, .string ⟨#[]⟩, .int .u64 0, .int .u64 0] rfl rfl 87 #[.bool false, .string ⟨#[]⟩, .string ⟨#[]⟩, .int .u64 0, .int .u64 0] HRX.out HSZ.out HOLD.out HONE.out ?_))
  refine bodyPost_ret (results_cell_row rfl _ _ w.heap.size 87 #[.bool del, .string key, .string ⟨#[]⟩, .int .u64 0, .int .u64 0] (0, 0) _ rfl (setRow_heap _ _ _ _ _ _ HRX.out) Try.underlying87 rfl HSZ.out) rfl ?_
  exact ⟨rfl, HLAST.out⟩
set_option maxRecDepth 100000 in
set_option maxHeartbeats 2000000 in
theorem nextOp_del (p D : Nat) (P p1 p2 p3 p4 : Pos) (tag : Int) (h7 : (tag == 7) = false) (key val : ByteArray) (cond ttl : Nat) (w : World) (h : RdP p D w P) (hD : D < w.heap.size)
    (k1 : ∀ w, RdP p D w P → Calls Try.prog 47 #[.pointer (some ⟨p, 0, none⟩)] w fun e w' => e = .returned (.string key) ∧ RdP p D w' p1 ∧ But (fun b => b = p) w w')
    (k2 : ∀ w, RdP p D w p1 → Calls Try.prog 42 #[.pointer (some ⟨p, 0, none⟩), .int .i64 ((8 : Nat) : Int)] w fun e w' => e = .returned (.int .u64 (cond : Int)) ∧ RdP p D w' p2 ∧ But (fun b => b = p) w w')
    (k3 : ∀ w, RdP p D w p2 → Calls Try.prog 47 #[.pointer (some ⟨p, 0, none⟩)] w fun e w' => e = .returned (.string val) ∧ RdP p D w' p3 ∧ But (fun b => b = p) w w')
    (k4 : ∀ w, RdP p D w p3 → Calls Try.prog 42 #[.pointer (some ⟨p, 0, none⟩), .int .i64 ((8 : Nat) : Int)] w fun e w' => e = .returned (.int .u64 (ttl : Int)) ∧ RdP p D w' p4 ∧ But (fun b => b = p) w w') :
    Calls Try.prog 63 #[.pointer (some ⟨p, 0, none⟩), .int .i64 tag, .bool true] w fun e w' => e = .returned (.agg #[.bool true, .string key, .string ⟨#[]⟩, .int .u64 (cond : Int), .int .u64 0]) ∧ RdP p D w' p2 ∧ But (fun b => b = p) w w' := by
  have hp := h.lt
  have ha : RdP p D (w.alloc (.cells #[.bool false, .string ⟨#[]⟩, .string ⟨#[]⟩, .int .u64 0, .int .u64 0] 87)) P := Rd.but (S := fun _ => False) h ((But.refl _ w).alloc _) (fun e => e) (fun e => e)
  have hres0 : Blk (w.alloc (.cells #[.bool false, .string ⟨#[]⟩, .string ⟨#[]⟩, .int .u64 0, .int .u64 0] 87)) w.heap.size 87 #[.bool false, .string ⟨#[]⟩, .string ⟨#[]⟩, .int .u64 0, .int .u64 0] := Blk.new _ _ _
  have hbut0 : But (fun k => k = p) w (w.alloc (.cells #[.bool false, .string ⟨#[]⟩, .string ⟨#[]⟩, .int .u64 0, .int .u64 0] 87)) := (But.refl _ w).alloc _
  clear h
  go_enter Try.func63, Try.ntmps63
  go_wp2_with fail
  refine (k1 _ ha).mono ?_
  rintro e w1 ⟨rfl, hr, hb⟩
  have hres1 := hres0.but hb (fun e => by omega)
  have hbut1 := hbut0.trans' hb
  have hD1 : D < w1.heap.size := Nat.lt_of_lt_of_le hD hbut1.size
  have hs0 := Rdg.begin hr hres1 hbut1 (Nat.le_refl _) (by omega) hD1 #[.bool true, .string key, .string ⟨#[]⟩, .int .u64 0, .int .u64 0]
  have hpp : w.heap.size < w1.heap.size := hres1.lt
  clear ha hres0 hbut0 hr hb hres1 hbut1 hD1 k1
  go_wp2_with fail
  refine (k2 _ hs0.rd).mono ?_
  rintro e w2 ⟨rfl, hr, hb⟩
  have hr2 := hs0.read hr hb
  clear hr hb hs0 k2
  have c3 : w2.cell? ⟨w1.heap.size, 3, none⟩ = some (.int .u64 0) := hr2.cell 3 rfl
  have f3 : w2.frozen? ⟨w1.heap.size, 3, none⟩ = false := hr2.frozen 3
  have hs2 := hr2.set 3 (.int .u64 (cond : Int)) (cs' := #[.bool true, .string key, .string ⟨#[]⟩, .int .u64 (cond : Int), .int .u64 0]) rfl
  clear hr2
  have HBX := Lib.hid (show _ = _ from hs2.box)
  have HRX := Lib.hid (show _ = _ from hs2.res)
  have HLAST := Lib.hid (hs2.last #[.bool true, .string key, .string ⟨#[]⟩, .int .u64 (cond : Int), .int .u64 0])
  clear hs2
  have hone : (#[.bool true, .string key, .string ⟨#[]⟩, .int .u64 (cond : Int), .int .u64 0] : Array Value).all (fun x => x.oneCell') = true := by simp [Value.oneCell']
  have HONE := Lib.hid hone
  clear hone
  have HOLD := Lib.hid (show (#[.bool false, .string ⟨#[]⟩, .string ⟨#[]⟩, .int .u64 0, .int .u64 0] : Array Value).size = (#[.bool true, .string key, .string ⟨#[]⟩, .int .u64 (cond : Int), .int .u64 0] : Array Value).size by simp)
  have HSZ := Lib.hid (op_size.trans (show some 5 = some (#[.bool true, .string key, .string ⟨#[]⟩, .int .u64 (cond : Int), .int .u64 0] : Array Value).size by simp))
  go_wp2_with (first
    | (refine wpList_load_row rfl 87 _ rfl w1.heap.size rfl 87 _ (0, 0) _ HBX.out Try.underlying87 rfl HSZ.out ?_)
    | (refine wpList_store_rowTo rfl 87 _ _ rfl rfl w.heap.size #[.bool true, .string key, .string ⟨#[]⟩, .int .u64 (cond : Int), .int .u64 0] rfl rfl 87 #[.bool false, .string ⟨#[]⟩, .string ⟨#[]⟩, .int .u64 0, .int .u64 0] HRX.out HSZ.out HOLD.out HONE.out ?_))
  refine bodyPost_ret (results_cell_row rfl _ _ w.heap.size 87 #[.bool true, .string key, .string ⟨#[]⟩, .int .u64 (cond : Int), .int .u64 0] (0, 0) _ rfl (setRow_heap _ _ _ _ _ _ HRX.out) Try.underlying87 rfl HSZ.out) rfl ?_
  exact ⟨rfl, HLAST.out⟩
set_option maxRecDepth 100000 in
set_option maxHeartbeats 2000000 in
theorem nextOp_put (p D : Nat) (P p1 p2 p3 p4 : Pos) (tag : Int) (h7 : (tag == 7) = false) (key val : ByteArray) (cond ttl : Nat) (w : World) (h : RdP p D w P) (hD : D < w.heap.size)
    (k1 : ∀ w, RdP p D w P → Calls Try.prog 47 #[.pointer (some ⟨p, 0, none⟩)] w fun e w' => e = .returned (.string key) ∧ RdP p D w' p1 ∧ But (fun b => b = p) w w')
    (k2 : ∀ w, RdP p D w p1 → Calls Try.prog 42 #[.pointer (some ⟨p, 0, none⟩), .int .i64 ((8 : Nat) : Int)] w fun e w' => e = .returned (.int .u64 (cond : Int)) ∧ RdP p D w' p2 ∧ But (fun b => b = p) w w')
    (k3 : ∀ w, RdP p D w p2 → Calls Try.prog 47 #[.pointer (some ⟨p, 0, none⟩)] w fun e w' => e = .returned (.string val) ∧ RdP p D w' p3 ∧ But (fun b => b = p) w w')
    (k4 : ∀ w, RdP p D w p3 → Calls Try.prog 42 #[.pointer (some ⟨p, 0, none⟩), .int .i64 ((8 : Nat) : Int)] w fun e w' => e = .returned (.int .u64 (ttl : Int)) ∧ RdP p D w' p4 ∧ But (fun b => b = p) w w') :
    Calls Try.prog 63 #[.pointer (some ⟨p, 0, none⟩), .int .i64 tag, .bool false] w fun e w' => e = .returned (.agg #[.bool false, .string key, .string val, .int .u64 (cond : Int), .int .u64 (ttl : Int)]) ∧ RdP p D w' p4 ∧ But (fun b => b = p) w w' := by
  have hp := h.lt
  have ha : RdP p D (w.alloc (.cells #[.bool false, .string ⟨#[]⟩, .string ⟨#[]⟩, .int .u64 0, .int .u64 0] 87)) P := Rd.but (S := fun _ => False) h ((But.refl _ w).alloc _) (fun e => e) (fun e => e)
  have hres0 : Blk (w.alloc (.cells #[.bool false, .string ⟨#[]⟩, .string ⟨#[]⟩, .int .u64 0, .int .u64 0] 87)) w.heap.size 87 #[.bool false, .string ⟨#[]⟩, .string ⟨#[]⟩, .int .u64 0, .int .u64 0] := Blk.new _ _ _
  have hbut0 : But (fun k => k = p) w (w.alloc (.cells #[.bool false, .string ⟨#[]⟩, .string ⟨#[]⟩, .int .u64 0, .int .u64 0] 87)) := (But.refl _ w).alloc _
  clear h
  go_enter Try.func63, Try.ntmps63
  go_wp2_with fail
  refine (k1 _ ha).mono ?_
  rintro e w1 ⟨rfl, hr, hb⟩
  have hres1 := hres0.but hb (fun e => by omega)
  have hbut1 := hbut0.trans' hb
  have hD1 : D < w1.heap.size := Nat.lt_of_lt_of_le hD hbut1.size
  have hs0 := Rdg.begin hr hres1 hbut1 (Nat.le_refl _) (by omega) hD1 #[.bool false, .string key, .string ⟨#[]⟩, .int .u64 0, .int .u64 0]
  have hpp : w.heap.size < w1.heap.size := hres1.lt
  clear ha hres0 hbut0 hr hb hres1 hbut1 hD1 k1
  go_wp2_with fail
  refine (k2 _ hs0.rd).mono ?_
  rintro e w2 ⟨rfl, hr, hb⟩
  have hr2 := hs0.read hr hb
  clear hr hb hs0 k2
  have c3 : w2.cell? ⟨w1.heap.size, 3, none⟩ = some (.int .u64 0) := hr2.cell 3 rfl
  have f3 : w2.frozen? ⟨w1.heap.size, 3, none⟩ = false := hr2.frozen 3
  have hs2 := hr2.set 3 (.int .u64 (cond : Int)) (cs' := #[.bool false, .string key, .string ⟨#[]⟩, .int .u64 (cond : Int), .int .u64 0]) rfl
  clear hr2
  go_wp2_with fail
  refine (k3 _ hs2.rd).mono ?_
  rintro e w3 ⟨rfl, hr, hb⟩
  have hr3 := hs2.read hr hb
  clear hr hb hs2 k3
  have c2 : w3.cell? ⟨w1.heap.size, 2, none⟩ = some (.string ⟨#[]⟩) := hr3.cell 2 rfl
  have f2 : w3.frozen? ⟨w1.heap.size, 2, none⟩ = false := hr3.frozen 2
  have hs3 := hr3.set 2 (.string val) (cs' := #[.bool false, .string key, .string val, .int .u64 (cond : Int), .int .u64 0]) rfl
  clear hr3
  go_wp2_with fail
  refine (k4 _ hs3.rd).mono ?_
  rintro e w4 ⟨rfl, hr, hb⟩
  have hr4 := hs3.read hr hb
  clear hr hb hs3 k4
  have c4 : w4.cell? ⟨w1.heap.size, 4, none⟩ = some (.int .u64 0) := hr4.cell 4 rfl
  have f4 : w4.frozen? ⟨w1.heap.size, 4, none⟩ = false := hr4.frozen 4
  have hs4 := hr4.set 4 (.int .u64 (ttl : Int)) (cs' := #[.bool false, .string key, .string val, .int .u64 (cond : Int), .int .u64 (ttl : Int)]) rfl
  clear hr4
  have HBX := Lib.hid (show _ = _ from hs4.box)
  have HRX := Lib.hid (show _ = _ from hs4.res)
  have HLAST := Lib.hid (hs4.last #[.bool false, .string key, .string val, .int .u64 (cond : Int), .int .u64 (ttl : Int)])
  clear hs4
  have hone : (#[.bool false, .string key, .string val, .int .u64 (cond : Int), .int .u64 (ttl : Int)] : Array Value).all (fun x => x.oneCell') = true := by simp [Value.oneCell']
  have HONE := Lib.hid hone
  clear hone
  have HOLD := Lib.hid (show (#[.bool false, .string ⟨#[]⟩, .string ⟨#[]⟩, .int .u64 0, .int .u64 0] : Array Value).size = (#[.bool false, .string key, .string val, .int .u64 (cond : Int), .int .u64 (ttl : Int)] : Array Value).size by simp)
  have HSZ := Lib.hid (op_size.trans (show some 5 = some (#[.bool false, .string key, .string val, .int .u64 (cond : Int), .int .u64 (ttl : Int)] : Array Value).size by simp))
  go_wp2_with (first
    | (refine wpList_load_row rfl 87 _ rfl w1.heap.size rfl 87 _ (0, 0) _ HBX.out Try.underlying87 rfl HSZ.out ?_)
    | (refine wpList_store_rowTo rfl 87 _ _ rfl rfl w.heap.size #[.bool false, .string key, .string val, .int .u64 (cond : Int), .int .u64 (ttl : Int)] rfl rfl 87 #[.bool false, .string ⟨#[]⟩, .string ⟨#[]⟩, .int .u64 0, .int .u64 0] HRX.out HSZ.out HOLD.out HONE.out ?_))
  refine bodyPost_ret (results_cell_row rfl _ _ w.heap.size 87 #[.bool false, .string key, .string val, .int .u64 (cond : Int), .int .u64 (ttl : Int)] (0, 0) _ rfl (setRow_heap _ _ _ _ _ _ HRX.out) Try.underlying87 rfl HSZ.out) rfl ?_
  exact ⟨rfl, HLAST.out⟩
set_option maxRecDepth 100000 in
set_option maxHeartbeats 2000000 in
theorem nextOp_any (p D : Nat) (P : Pos) (tag : Int) (del : Bool) (w : World) (h : RdP p D w P) (hD : D < w.heap.size) :
    Calls Try.prog 63 #[.pointer (some ⟨p, 0, none⟩), .int .i64 tag, .bool del] w fun e w' => e = .returned (ov (rdOp tag del P)) ∧ RdP p D w' (endOp tag del P) ∧ But (fun b => b = p) w w' := by
  have k1 := fun w => rdP_text p D P w
  have k2 := fun w => rdP_number p D P.past 8 (by omega) (by omega) w
  have k3 := fun w => rdP_text p D (P.past.skip 8) w
  have k4 := fun w => rdP_number p D ((P.past.skip 8).past) 8 (by omega) (by omega) w
  unfold rdOp endOp
  by_cases h7 : tag = 7
  · rw [if_pos h7, if_pos h7]
    exact nextOp_get p D P P.past P P P tag del (beq_iff_eq.2 h7) _ nothing 0 0 w h hD k1
  · rw [if_neg h7, if_neg h7]
    have h7' : (tag == 7) = false := beq_eq_false_iff_ne.2 h7
    cases del
    · exact nextOp_put p D P _ _ _ _ tag h7' _ _ _ _ w h hD k1 k2 k3 k4
    · exact nextOp_del p D P _ _ _ _ tag h7' _ _ _ _ w h hD k1 k2 k3 k4
end Go.Proofs.Ytbdbbnpkekcefaa.Cmd

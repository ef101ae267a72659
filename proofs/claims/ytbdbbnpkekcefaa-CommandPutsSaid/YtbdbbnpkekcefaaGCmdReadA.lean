/- In one text: What read answers. What bytes are read as: the walks of command.read, a class of tags each. -/
import Derived.Test.YtbdbbnpkekcefaaCmdNextOps
import Derived.Test.YtbdbbnpkekcefaaGCmdPut
namespace Go.Proofs.Ytbdbbnpkekcefaa.Cmd
open Go.Proofs.Ytbdbbnpkekcefaa.Mem Go.Proofs.Ytbdbbnpkekcefaa.Pack
open Go.ChangeShapes Go.WideShapes Go.ChangeAt Go.RowKit
set_option linter.unusedVariables false
set_option linter.unusedSimpArgs false

def ReadIs (P : Pos) (w : World) (e : Ending) (w' : World) : Prop := ∃ sv, e = .returned (rv (readRq P) sv) ∧ OpsFrom w.heap.size w' sv (readRq P).ops ∧ Below w.heap.size w w'
theorem rdBody_ops6 {t : Int} (h : 6 ≤ t ∧ t ≤ 9) (Q : Pos) : rdBody t Q = ⟨t, 0, 0, zeroQuo, rdTok Q, opsRead t (endTok Q), nothing, false, 0, 0, 0⟩ := by
  unfold opsRead
  by_cases h9 : t = 9
  · rw [rdBody_c9 h9, if_pos h9]
  · rw [rdBody_c6 (by omega), if_neg h9]
end Go.Proofs.Ytbdbbnpkekcefaa.Cmd
namespace Go.Proofs.Ytbdbbnpkekcefaa.Cmd
open Go.Proofs.Ytbdbbnpkekcefaa.Mem Go.Proofs.Ytbdbbnpkekcefaa.Pack
open Go.ChangeShapes Go.WideShapes Go.ChangeAt Go.RowKit
set_option linter.unusedVariables false
set_option linter.unusedSimpArgs false

set_option maxRecDepth 100000 in
set_option maxHeartbeats 4000000 in
theorem read_c1 (a : Option Addr) (cap : Nat) (zs : List Int) (w : World) (h : Row w a zs.length zs) (hn : a = none → cap = 0) (hl : zs.length ≤ 1073741824) (P : Pos) (hP : P = ⟨zs, false⟩) (hk : (P.num 1 : Int) = 1 ∨ (P.num 1 : Int) = 3) :
    Calls Try.prog 20 #[.slice a zs.length cap] w fun e w' => ReadIs P w e w' := by
  have b1 : Bytes P.zs := by rw [hP]; exact h.2.1
  have hr0 : ∀ t cs, Row (w.alloc (.cells cs t)) a zs.length zs := fun t cs => h.below ((Below.refl _ _).alloc (Nat.le_refl _) _)
  have hnew := fun t cs => new_any a zs.length cap zs _ (hr0 t cs) hn hl
  have HNEW := Lib.hid hnew
  have l1 := num1_lt b1
  have k1 := fun p D w => rdP_number p D P 1 (by omega) (by omega) w
  obtain ⟨n1, hn1⟩ : ∃ n, n = P.num 1 := ⟨_, rfl⟩
  obtain ⟨p1, hp1⟩ : ∃ x, x = P.skip 1 := ⟨_, rfl⟩
  have b2 : Bytes p1.zs := by rw [hp1]; exact skip_bytes b1 1
  rw [← hn1] at k1 l1 hk
  rw [← hp1] at k1
  have hpr := fun w => parts_c1 hk w
  have l2 := num8_lt b2
  have k2 := fun p D w => rdP_number p D p1 8 (by omega) (by omega) w
  obtain ⟨n2, hn2⟩ : ∃ n, n = p1.num 8 := ⟨_, rfl⟩
  obtain ⟨p2, hp2⟩ : ∃ x, x = p1.skip 8 := ⟨_, rfl⟩
  have b3 : Bytes p2.zs := by rw [hp2]; exact skip_bytes b2 8
  rw [← hn2] at k2 l2
  rw [← hp2] at k2
  have l3 := num1_lt b3
  have k3 := fun p D w => rdP_number p D p2 1 (by omega) (by omega) w
  obtain ⟨n3, hn3⟩ : ∃ n, n = p2.num 1 := ⟨_, rfl⟩
  obtain ⟨p3, hp3⟩ : ∃ x, x = p2.skip 1 := ⟨_, rfl⟩
  have b4 : Bytes p3.zs := by rw [hp3]; exact skip_bytes b3 1
  rw [← hn3] at k3 l3
  rw [← hp3] at k3
  have k4 := fun p D w => nextQuota_any p D p3 w
  obtain ⟨⟨qk, qb, qg⟩, hn4⟩ : ∃ n, n = rdQuo p3 := ⟨_, rfl⟩
  obtain ⟨p4, hp4⟩ : ∃ x, x = endQuo p3 := ⟨_, rfl⟩
  have b5 : Bytes p4.zs := by rw [hp4]; exact endQuo_bytes b4
  rw [← hn4, ← hp4] at k4
  simp only [qv] at k4
  have hq : readRq P = ⟨(n1 : Int), n2, (n3 : Int), ⟨qk, qb, qg⟩, zeroTok, [], nothing, false, 0, 0, 0⟩ := by
    unfold readRq
    rw [← hn1, ← hp1, rdBody_c1 hk]
    rw [← hn2, ← hp2, ← hn3, ← hp3, ← hn4]
  unfold ReadIs
  rw [hq]
  have HPP := Lib.hid hP
  clear h hn hl hr0 hnew hk hP hq hn1 hp1 hn2 hp2 hn3 hp3 hn4 hp4 b1 b2 b3 b4 b5
  simp only [rv, rcells, zeroQuo, zeroTok, nothing]
  go_enter Try.func20, Try.ntmps20
  go_wp2_with fail
  refine (HNEW.out _ _).mono ?_
  rintro e v1 ⟨p, rfl, hp, D, hrd, hb1, hD1, hD2⟩
  have hres := (Blk.new w 32 #[.int .i64 0, .int .u64 0, .int .i64 0, .int .i64 0, .int .i64 0, .int .i64 0, .int .i64 0, .int .u32 0, .int .u32 0, .int .u64 0, .slice none 0 0, .string ⟨#[]⟩, .bool false, .int .i64 0, .int .i64 0, .int .u32 0]).but (But.of_new hb1 (S := fun _ => False)) (fun e => e)
  have hbut1 : But (fun k => k = p) w v1 := ((But.refl (fun k => k = p) w).alloc (.cells #[.int .i64 0, .int .u64 0, .int .i64 0, .int .i64 0, .int .i64 0, .int .i64 0, .int .i64 0, .int .u32 0, .int .u32 0, .int .u64 0, .slice none 0 0, .string ⟨#[]⟩, .bool false, .int .i64 0, .int .i64 0, .int .u32 0] 32)).trans (But.of_new (S := fun _ => False) hb1) (fun _ _ e => e.elim)
  have hsz : w.heap.size < p ∧ w.heap.size < D := by simp at hp hD1; omega
  have HP := Lib.hid hsz
  have hrd1 : RdP p D v1 P := by rw [HPP.out]; exact hrd
  clear hrd hb1 hp hD1 HNEW
  go_wp2_with fail
  refine (k1 p D _ hrd1).mono ?_
  rintro e w1 ⟨rfl, hr, hb⟩
  have hres1 := hres.but hb (fun e => by omega)
  have hbut2 := hbut1.trans' hb
  have hD3 : D < w1.heap.size := by have := hr.lt; omega
  have hs1 := Rdg.begin hr hres1 hbut2 (Nat.le_refl _) (by omega) hD3 #[.int .i64 (n1 : Int), .int .u64 0, .int .i64 0, .int .i64 0, .int .i64 0, .int .i64 0, .int .i64 0, .int .u32 0, .int .u32 0, .int .u64 0, .slice none 0 0, .string ⟨#[]⟩, .bool false, .int .i64 0, .int .i64 0, .int .u32 0]
  have c0 : World.cell? _ ⟨w1.heap.size, 0, none⟩ = some (.int .i64 (n1 : Int)) := hs1.cell 0 rfl
  clear hr hb hres hres1 hbut1 hbut2 hrd1 k1
  go_wp2_with fail
  clear c0
  refine (hpr _).mono ?_
  rintro e w0 ⟨rfl, rfl⟩
  clear hpr
  go_wp2_with fail
  refine (k2 p D _ hs1.rd).mono ?_
  rintro e w2 ⟨rfl, hr, hb⟩
  have hr2 := hs1.read hr hb
  clear hr hb hs1 k2
  have c1 : w2.cell? ⟨w1.heap.size, 1, none⟩ = some (.int .u64 0) := hr2.cell 1 rfl
  have f1 : w2.frozen? ⟨w1.heap.size, 1, none⟩ = false := hr2.frozen 1
  have hs2 := hr2.set 1 (.int .u64 (n2 : Int)) (cs' := #[.int .i64 (n1 : Int), .int .u64 (n2 : Int), .int .i64 0, .int .i64 0, .int .i64 0, .int .i64 0, .int .i64 0, .int .u32 0, .int .u32 0, .int .u64 0, .slice none 0 0, .string ⟨#[]⟩, .bool false, .int .i64 0, .int .i64 0, .int .u32 0]) rfl
  clear hr2
  go_wp2_with fail
  refine (k3 p D _ hs2.rd).mono ?_
  rintro e w3 ⟨rfl, hr, hb⟩
  have hr3 := hs2.read hr hb
  clear hr hb hs2 k3
  have c2 : w3.cell? ⟨w1.heap.size, 2, none⟩ = some (.int .i64 0) := hr3.cell 2 rfl
  have f2 : w3.frozen? ⟨w1.heap.size, 2, none⟩ = false := hr3.frozen 2
  have hs3 := hr3.set 2 (.int .i64 (n3 : Int)) (cs' := #[.int .i64 (n1 : Int), .int .u64 (n2 : Int), .int .i64 (n3 : Int), .int .i64 0, .int .i64 0, .int .i64 0, .int .i64 0, .int .u32 0, .int .u32 0, .int .u64 0, .slice none 0 0, .string ⟨#[]⟩, .bool false, .int .i64 0, .int .i64 0, .int .u32 0]) rfl
  clear hr3
  go_wp2_with fail
  refine (k4 p D _ hs3.rd (by have := hs3.box.lt; omega)).mono ?_
  rintro e w4 ⟨rfl, hr, hb⟩
  have hr4 := hs3.read hr hb
  clear hr hb hs3 k4
  have c3 : w4.cell? ⟨w1.heap.size, 3, none⟩ = some (.int .i64 0) := hr4.cell 3 rfl
  have f3 : w4.frozen? ⟨w1.heap.size, 3, none⟩ = false := hr4.frozen 3
  have c4 : w4.cell? ⟨w1.heap.size, 4, none⟩ = some (.int .i64 0) := hr4.cell 4 rfl
  have f4 : w4.frozen? ⟨w1.heap.size, 4, none⟩ = false := hr4.frozen 4
  have c5 : w4.cell? ⟨w1.heap.size, 5, none⟩ = some (.int .i64 0) := hr4.cell 5 rfl
  have f5 : w4.frozen? ⟨w1.heap.size, 5, none⟩ = false := hr4.frozen 5
  have hq0 := hr4.set 3 (.int .i64 qk) (cs' := #[.int .i64 (n1 : Int), .int .u64 (n2 : Int), .int .i64 (n3 : Int), .int .i64 qk, .int .i64 0, .int .i64 0, .int .i64 0, .int .u32 0, .int .u32 0, .int .u64 0, .slice none 0 0, .string ⟨#[]⟩, .bool false, .int .i64 0, .int .i64 0, .int .u32 0]) rfl
  have hq1 := hq0.set 4 (.int .i64 qb) (cs' := #[.int .i64 (n1 : Int), .int .u64 (n2 : Int), .int .i64 (n3 : Int), .int .i64 qk, .int .i64 qb, .int .i64 0, .int .i64 0, .int .u32 0, .int .u32 0, .int .u64 0, .slice none 0 0, .string ⟨#[]⟩, .bool false, .int .i64 0, .int .i64 0, .int .u32 0]) rfl
  have hq2 := hq1.set 5 (.int .i64 qg) (cs' := #[.int .i64 (n1 : Int), .int .u64 (n2 : Int), .int .i64 (n3 : Int), .int .i64 qk, .int .i64 qb, .int .i64 qg, .int .i64 0, .int .u32 0, .int .u32 0, .int .u64 0, .slice none 0 0, .string ⟨#[]⟩, .bool false, .int .i64 0, .int .i64 0, .int .u32 0]) rfl
  have hs4 := hq2
  clear hq0 hq1 hq2 hr4
  have HBX := Lib.hid (show _ = _ from hs4.box)
  have HRX := Lib.hid (show _ = _ from hs4.res)
  have HLAST := Lib.hid (hs4.last #[.int .i64 (n1 : Int), .int .u64 (n2 : Int), .int .i64 (n3 : Int), .int .i64 qk, .int .i64 qb, .int .i64 qg, .int .i64 0, .int .u32 0, .int .u32 0, .int .u64 0, .slice none 0 0, .string ⟨#[]⟩, .bool false, .int .i64 0, .int .i64 0, .int .u32 0])
  clear hs4
  have hone : (#[.int .i64 (n1 : Int), .int .u64 (n2 : Int), .int .i64 (n3 : Int), .int .i64 qk, .int .i64 qb, .int .i64 qg, .int .i64 0, .int .u32 0, .int .u32 0, .int .u64 0, .slice none 0 0, .string ⟨#[]⟩, .bool false, .int .i64 0, .int .i64 0, .int .u32 0] : Array Value).all (fun x => x.oneCell') = true := by simp [Value.oneCell']
  have HONE := Lib.hid hone
  clear hone
  have HOLD := Lib.hid (show (#[.int .i64 0, .int .u64 0, .int .i64 0, .int .i64 0, .int .i64 0, .int .i64 0, .int .i64 0, .int .u32 0, .int .u32 0, .int .u64 0, .slice none 0 0, .string ⟨#[]⟩, .bool false, .int .i64 0, .int .i64 0, .int .u32 0] : Array Value).size = (#[.int .i64 (n1 : Int), .int .u64 (n2 : Int), .int .i64 (n3 : Int), .int .i64 qk, .int .i64 qb, .int .i64 qg, .int .i64 0, .int .u32 0, .int .u32 0, .int .u64 0, .slice none 0 0, .string ⟨#[]⟩, .bool false, .int .i64 0, .int .i64 0, .int .u32 0] : Array Value).size by simp)
  have HSZ := Lib.hid (req_size.trans (show some 16 = some (#[.int .i64 (n1 : Int), .int .u64 (n2 : Int), .int .i64 (n3 : Int), .int .i64 qk, .int .i64 qb, .int .i64 qg, .int .i64 0, .int .u32 0, .int .u32 0, .int .u64 0, .slice none 0 0, .string ⟨#[]⟩, .bool false, .int .i64 0, .int .i64 0, .int .u32 0] : Array Value).size by simp))
  go_wp2_with (first
    | (refine wpList_load_row rfl 32 _ rfl w1.heap.size rfl 32 _ (0, 0) _ HBX.out Try.underlying32 rfl HSZ.out ?_)
    | (refine wpList_store_rowTo rfl 32 _ _ rfl rfl w.heap.size #[.int .i64 (n1 : Int), .int .u64 (n2 : Int), .int .i64 (n3 : Int), .int .i64 qk, .int .i64 qb, .int .i64 qg, .int .i64 0, .int .u32 0, .int .u32 0, .int .u64 0, .slice none 0 0, .string ⟨#[]⟩, .bool false, .int .i64 0, .int .i64 0, .int .u32 0] rfl rfl 32 #[.int .i64 0, .int .u64 0, .int .i64 0, .int .i64 0, .int .i64 0, .int .i64 0, .int .i64 0, .int .u32 0, .int .u32 0, .int .u64 0, .slice none 0 0, .string ⟨#[]⟩, .bool false, .int .i64 0, .int .i64 0, .int .u32 0] HRX.out HSZ.out HOLD.out HONE.out ?_))
  refine bodyPost_ret (results_cell_row rfl _ _ w.heap.size 32 #[.int .i64 (n1 : Int), .int .u64 (n2 : Int), .int .i64 (n3 : Int), .int .i64 qk, .int .i64 qb, .int .i64 qg, .int .i64 0, .int .u32 0, .int .u32 0, .int .u64 0, .slice none 0 0, .string ⟨#[]⟩, .bool false, .int .i64 0, .int .i64 0, .int .u32 0] (0, 0) _ rfl (setRow_heap _ _ _ _ _ _ HRX.out) Try.underlying32 rfl HSZ.out) rfl ?_
  have hwb : Below w.heap.size w _ := (HLAST.out.2).below (Nat.le_refl _) (fun k hk => by omega)
  exact ⟨_, rfl, OpsFrom.nil _ _, hwb⟩
set_option maxRecDepth 100000 in
set_option maxHeartbeats 4000000 in
theorem read_c2 (a : Option Addr) (cap : Nat) (zs : List Int) (w : World) (h : Row w a zs.length zs) (hn : a = none → cap = 0) (hl : zs.length ≤ 1073741824) (P : Pos) (hP : P = ⟨zs, false⟩) (hk : (P.num 1 : Int) = 2) :
    Calls Try.prog 20 #[.slice a zs.length cap] w fun e w' => ReadIs P w e w' := by
  have b1 : Bytes P.zs := by rw [hP]; exact h.2.1
  have hr0 : ∀ t cs, Row (w.alloc (.cells cs t)) a zs.length zs := fun t cs => h.below ((Below.refl _ _).alloc (Nat.le_refl _) _)
  have hnew := fun t cs => new_any a zs.length cap zs _ (hr0 t cs) hn hl
  have HNEW := Lib.hid hnew
  have l1 := num1_lt b1
  have k1 := fun p D w => rdP_number p D P 1 (by omega) (by omega) w
  obtain ⟨n1, hn1⟩ : ∃ n, n = P.num 1 := ⟨_, rfl⟩
  obtain ⟨p1, hp1⟩ : ∃ x, x = P.skip 1 := ⟨_, rfl⟩
  have b2 : Bytes p1.zs := by rw [hp1]; exact skip_bytes b1 1
  rw [← hn1] at k1 l1 hk
  rw [← hp1] at k1
  have hpr := fun w => parts_c2 hk w
  have l2 := num8_lt b2
  have k2 := fun p D w => rdP_number p D p1 8 (by omega) (by omega) w
  obtain ⟨n2, hn2⟩ : ∃ n, n = p1.num 8 := ⟨_, rfl⟩
  obtain ⟨p2, hp2⟩ : ∃ x, x = p1.skip 8 := ⟨_, rfl⟩
  have b3 : Bytes p2.zs := by rw [hp2]; exact skip_bytes b2 8
  rw [← hn2] at k2 l2
  rw [← hp2] at k2
  have l3 := num1_lt b3
  have k3 := fun p D w => rdP_number p D p2 1 (by omega) (by omega) w
  obtain ⟨n3, hn3⟩ : ∃ n, n = p2.num 1 := ⟨_, rfl⟩
  obtain ⟨p3, hp3⟩ : ∃ x, x = p2.skip 1 := ⟨_, rfl⟩
  have b4 : Bytes p3.zs := by rw [hp3]; exact skip_bytes b3 1
  rw [← hn3] at k3 l3
  rw [← hp3] at k3
  have hq : readRq P = ⟨(n1 : Int), n2, (n3 : Int), zeroQuo, zeroTok, [], nothing, false, 0, 0, 0⟩ := by
    unfold readRq
    rw [← hn1, ← hp1, rdBody_c2 hk]
    rw [← hn2, ← hp2, ← hn3]
  unfold ReadIs
  rw [hq]
  have HPP := Lib.hid hP
  clear h hn hl hr0 hnew hk hP hq hn1 hp1 hn2 hp2 hn3 hp3 b1 b2 b3 b4
  simp only [rv, rcells, zeroQuo, zeroTok, nothing]
  go_enter Try.func20, Try.ntmps20
  go_wp2_with fail
  refine (HNEW.out _ _).mono ?_
  rintro e v1 ⟨p, rfl, hp, D, hrd, hb1, hD1, hD2⟩
  have hres := (Blk.new w 32 #[.int .i64 0, .int .u64 0, .int .i64 0, .int .i64 0, .int .i64 0, .int .i64 0, .int .i64 0, .int .u32 0, .int .u32 0, .int .u64 0, .slice none 0 0, .string ⟨#[]⟩, .bool false, .int .i64 0, .int .i64 0, .int .u32 0]).but (But.of_new hb1 (S := fun _ => False)) (fun e => e)
  have hbut1 : But (fun k => k = p) w v1 := ((But.refl (fun k => k = p) w).alloc (.cells #[.int .i64 0, .int .u64 0, .int .i64 0, .int .i64 0, .int .i64 0, .int .i64 0, .int .i64 0, .int .u32 0, .int .u32 0, .int .u64 0, .slice none 0 0, .string ⟨#[]⟩, .bool false, .int .i64 0, .int .i64 0, .int .u32 0] 32)).trans (But.of_new (S := fun _ => False) hb1) (fun _ _ e => e.elim)
  have hsz : w.heap.size < p ∧ w.heap.size < D := by simp at hp hD1; omega
  have HP := Lib.hid hsz
  have hrd1 : RdP p D v1 P := by rw [HPP.out]; exact hrd
  clear hrd hb1 hp hD1 HNEW
  go_wp2_with fail
  refine (k1 p D _ hrd1).mono ?_
  rintro e w1 ⟨rfl, hr, hb⟩
  have hres1 := hres.but hb (fun e => by omega)
  have hbut2 := hbut1.trans' hb
  have hD3 : D < w1.heap.size := by have := hr.lt; omega
  have hs1 := Rdg.begin hr hres1 hbut2 (Nat.le_refl _) (by omega) hD3 #[.int .i64 (n1 : Int), .int .u64 0, .int .i64 0, .int .i64 0, .int .i64 0, .int .i64 0, .int .i64 0, .int .u32 0, .int .u32 0, .int .u64 0, .slice none 0 0, .string ⟨#[]⟩, .bool false, .int .i64 0, .int .i64 0, .int .u32 0]
  have c0 : World.cell? _ ⟨w1.heap.size, 0, none⟩ = some (.int .i64 (n1 : Int)) := hs1.cell 0 rfl
  clear hr hb hres hres1 hbut1 hbut2 hrd1 k1
  go_wp2_with fail
  clear c0
  refine (hpr _).mono ?_
  rintro e w0 ⟨rfl, rfl⟩
  clear hpr
  go_wp2_with fail
  refine (k2 p D _ hs1.rd).mono ?_
  rintro e w2 ⟨rfl, hr, hb⟩
  have hr2 := hs1.read hr hb
  clear hr hb hs1 k2
  have c1 : w2.cell? ⟨w1.heap.size, 1, none⟩ = some (.int .u64 0) := hr2.cell 1 rfl
  have f1 : w2.frozen? ⟨w1.heap.size, 1, none⟩ = false := hr2.frozen 1
  have hs2 := hr2.set 1 (.int .u64 (n2 : Int)) (cs' := #[.int .i64 (n1 : Int), .int .u64 (n2 : Int), .int .i64 0, .int .i64 0, .int .i64 0, .int .i64 0, .int .i64 0, .int .u32 0, .int .u32 0, .int .u64 0, .slice none 0 0, .string ⟨#[]⟩, .bool false, .int .i64 0, .int .i64 0, .int .u32 0]) rfl
  clear hr2
  go_wp2_with fail
  refine (k3 p D _ hs2.rd).mono ?_
  rintro e w3 ⟨rfl, hr, hb⟩
  have hr3 := hs2.read hr hb
  clear hr hb hs2 k3
  have c2 : w3.cell? ⟨w1.heap.size, 2, none⟩ = some (.int .i64 0) := hr3.cell 2 rfl
  have f2 : w3.frozen? ⟨w1.heap.size, 2, none⟩ = false := hr3.frozen 2
  have hs3 := hr3.set 2 (.int .i64 (n3 : Int)) (cs' := #[.int .i64 (n1 : Int), .int .u64 (n2 : Int), .int .i64 (n3 : Int), .int .i64 0, .int .i64 0, .int .i64 0, .int .i64 0, .int .u32 0, .int .u32 0, .int .u64 0, .slice none 0 0, .string ⟨#[]⟩, .bool false, .int .i64 0, .int .i64 0, .int .u32 0]) rfl
  clear hr3
  have HBX := Lib.hid (show _ = _ from hs3.box)
  have HRX := Lib.hid (show _ = _ from hs3.res)
  have HLAST := Lib.hid (hs3.last #[.int .i64 (n1 : Int), .int .u64 (n2 : Int), .int .i64 (n3 : Int), .int .i64 0, .int .i64 0, .int .i64 0, .int .i64 0, .int .u32 0, .int .u32 0, .int .u64 0, .slice none 0 0, .string ⟨#[]⟩, .bool false, .int .i64 0, .int .i64 0, .int .u32 0])
  clear hs3
  have hone : (#[.int .i64 (n1 : Int), .int .u64 (n2 : Int), .int .i64 (n3 : Int), .int .i64 0, .int .i64 0, .int .i64 0, .int .i64 0, .int .u32 0, .int .u32 0, .int .u64 0, .slice none 0 0, .string ⟨#[]⟩, .bool false, .int .i64 0, .int .i64 0, .int .u32 0] : Array Value).all (fun x => x.oneCell') = true := by simp [Value.oneCell']
  have HONE := Lib.hid hone
  clear hone
  have HOLD := Lib.hid (show (#[.int .i64 0, .int .u64 0, .int .i64 0, .int .i64 0, .int .i64 0, .int .i64 0, .int .i64 0, .int .u32 0, .int .u32 0, .int .u64 0, .slice none 0 0, .string ⟨#[]⟩, .bool false, .int .i64 0, .int .i64 0, .int .u32 0] : Array Value).size = (#[.int .i64 (n1 : Int), .int .u64 (n2 : Int), .int .i64 (n3 : Int), .int .i64 0, .int .i64 0, .int .i64 0, .int .i64 0, .int .u32 0, .int .u32 0, .int .u64 0, .slice none 0 0, .string ⟨#[]⟩, .bool false, .int .i64 0, .int .i64 0, .int .u32 0] : Array Value).size by simp)
  have HSZ := Lib.hid (req_size.trans (show some 16 = some (#[.int .i64 (n1 : Int), .int .u64 (n2 : Int), .int .i64 (n3 : Int), .int .i64 0, .int .i64 0, .int .i64 0, .int .i64 0, .int .u32 0, .int .u32 0, .int .u64 0, .slice none 0 0, .string ⟨#[]⟩, .bool false, .int .i64 0, .int .i64 0, .int .u32 0] : Array Value).size by simp))
  go_wp2_with (first
    | (refine wpList_load_row rfl 32 _ rfl w1.heap.size rfl 32 _ (0, 0) _ HBX.out Try.underlying32 rfl HSZ.out ?_)
    | (refine wpList_store_rowTo rfl 32 _ _ rfl rfl w.heap.size #[.int .i64 (n1 : Int), .int .u64 (n2 : Int), .int .i64 (n3 : Int), .int .i64 0, .int .i64 0, .int .i64 0, .int .i64 0, .int .u32 0, .int .u32 0, .int .u64 0, .slice none 0 0, .string ⟨#[]⟩, .bool false, .int .i64 0, .int .i64 0, .int .u32 0] rfl rfl 32 #[.int .i64 0, .int .u64 0, .int .i64 0, .int .i64 0, .int .i64 0, .int .i64 0, .int .i64 0, .int .u32 0, .int .u32 0, .int .u64 0, .slice none 0 0, .string ⟨#[]⟩, .bool false, .int .i64 0, .int .i64 0, .int .u32 0] HRX.out HSZ.out HOLD.out HONE.out ?_))
  refine bodyPost_ret (results_cell_row rfl _ _ w.heap.size 32 #[.int .i64 (n1 : Int), .int .u64 (n2 : Int), .int .i64 (n3 : Int), .int .i64 0, .int .i64 0, .int .i64 0, .int .i64 0, .int .u32 0, .int .u32 0, .int .u64 0, .slice none 0 0, .string ⟨#[]⟩, .bool false, .int .i64 0, .int .i64 0, .int .u32 0] (0, 0) _ rfl (setRow_heap _ _ _ _ _ _ HRX.out) Try.underlying32 rfl HSZ.out) rfl ?_
  have hwb : Below w.heap.size w _ := (HLAST.out.2).below (Nat.le_refl _) (fun k hk => by omega)
  exact ⟨_, rfl, OpsFrom.nil _ _, hwb⟩
set_option maxRecDepth 100000 in
set_option maxHeartbeats 4000000 in
theorem read_c4 (a : Option Addr) (cap : Nat) (zs : List Int) (w : World) (h : Row w a zs.length zs) (hn : a = none → cap = 0) (hl : zs.length ≤ 1073741824) (P : Pos) (hP : P = ⟨zs, false⟩) (hk : (P.num 1 : Int) = 4 ∨ (P.num 1 : Int) = 5) :
    Calls Try.prog 20 #[.slice a zs.length cap] w fun e w' => ReadIs P w e w' := by
  have b1 : Bytes P.zs := by rw [hP]; exact h.2.1
  have hr0 : ∀ t cs, Row (w.alloc (.cells cs t)) a zs.length zs := fun t cs => h.below ((Below.refl _ _).alloc (Nat.le_refl _) _)
  have hnew := fun t cs => new_any a zs.length cap zs _ (hr0 t cs) hn hl
  have HNEW := Lib.hid hnew
  have l1 := num1_lt b1
  have k1 := fun p D w => rdP_number p D P 1 (by omega) (by omega) w
  obtain ⟨n1, hn1⟩ : ∃ n, n = P.num 1 := ⟨_, rfl⟩
  obtain ⟨p1, hp1⟩ : ∃ x, x = P.skip 1 := ⟨_, rfl⟩
  have b2 : Bytes p1.zs := by rw [hp1]; exact skip_bytes b1 1
  rw [← hn1] at k1 l1 hk
  rw [← hp1] at k1
  have hpr := fun w => parts_c4 hk w
  have l2 := num8_lt b2
  have k2 := fun p D w => rdP_number p D p1 8 (by omega) (by omega) w
  obtain ⟨n2, hn2⟩ : ∃ n, n = p1.num 8 := ⟨_, rfl⟩
  obtain ⟨p2, hp2⟩ : ∃ x, x = p1.skip 8 := ⟨_, rfl⟩
  have b3 : Bytes p2.zs := by rw [hp2]; exact skip_bytes b2 8
  rw [← hn2] at k2 l2
  rw [← hp2] at k2
  have hq : readRq P = ⟨(n1 : Int), n2, 0, zeroQuo, zeroTok, [], nothing, false, 0, 0, 0⟩ := by
    unfold readRq
    rw [← hn1, ← hp1, rdBody_c4 hk]
    rw [← hn2]
  unfold ReadIs
  rw [hq]
  have HPP := Lib.hid hP
  clear h hn hl hr0 hnew hk hP hq hn1 hp1 hn2 hp2 b1 b2 b3
  simp only [rv, rcells, zeroQuo, zeroTok, nothing]
  go_enter Try.func20, Try.ntmps20
  go_wp2_with fail
  refine (HNEW.out _ _).mono ?_
  rintro e v1 ⟨p, rfl, hp, D, hrd, hb1, hD1, hD2⟩
  have hres := (Blk.new w 32 #[.int .i64 0, .int .u64 0, .int .i64 0, .int .i64 0, .int .i64 0, .int .i64 0, .int .i64 0, .int .u32 0, .int .u32 0, .int .u64 0, .slice none 0 0, .string ⟨#[]⟩, .bool false, .int .i64 0, .int .i64 0, .int .u32 0]).but (But.of_new hb1 (S := fun _ => False)) (fun e => e)
  have hbut1 : But (fun k => k = p) w v1 := ((But.refl (fun k => k = p) w).alloc (.cells #[.int .i64 0, .int .u64 0, .int .i64 0, .int .i64 0, .int .i64 0, .int .i64 0, .int .i64 0, .int .u32 0, .int .u32 0, .int .u64 0, .slice none 0 0, .string ⟨#[]⟩, .bool false, .int .i64 0, .int .i64 0, .int .u32 0] 32)).trans (But.of_new (S := fun _ => False) hb1) (fun _ _ e => e.elim)
  have hsz : w.heap.size < p ∧ w.heap.size < D := by simp at hp hD1; omega
  have HP := Lib.hid hsz
  have hrd1 : RdP p D v1 P := by rw [HPP.out]; exact hrd
  clear hrd hb1 hp hD1 HNEW
  go_wp2_with fail
  refine (k1 p D _ hrd1).mono ?_
  rintro e w1 ⟨rfl, hr, hb⟩
  have hres1 := hres.but hb (fun e => by omega)
  have hbut2 := hbut1.trans' hb
  have hD3 : D < w1.heap.size := by have := hr.lt; omega
  have hs1 := Rdg.begin hr hres1 hbut2 (Nat.le_refl _) (by omega) hD3 #[.int .i64 (n1 : Int), .int .u64 0, .int .i64 0, .int .i64 0, .int .i64 0, .int .i64 0, .int .i64 0, .int .u32 0, .int .u32 0, .int .u64 0, .slice none 0 0, .string ⟨#[]⟩, .bool false, .int .i64 0, .int .i64 0, .int .u32 0]
  have c0 : World.cell? _ ⟨w1.heap.size, 0, none⟩ = some (.int .i64 (n1 : Int)) := hs1.cell 0 rfl
  clear hr hb hres hres1 hbut1 hbut2 hrd1 k1
  go_wp2_with fail
  clear c0
  refine (hpr _).mono ?_
  rintro e w0 ⟨rfl, rfl⟩
  clear hpr
  go_wp2_with fail
  refine (k2 p D _ hs1.rd).mono ?_
  rintro e w2 ⟨rfl, hr, hb⟩
  have hr2 := hs1.read hr hb
  clear hr hb hs1 k2
  have c1 : w2.cell? ⟨w1.heap.size, 1, none⟩ = some (.int .u64 0) := hr2.cell 1 rfl
  have f1 : w2.frozen? ⟨w1.heap.size, 1, none⟩ = false := hr2.frozen 1
  have hs2 := hr2.set 1 (.int .u64 (n2 : Int)) (cs' := #[.int .i64 (n1 : Int), .int .u64 (n2 : Int), .int .i64 0, .int .i64 0, .int .i64 0, .int .i64 0, .int .i64 0, .int .u32 0, .int .u32 0, .int .u64 0, .slice none 0 0, .string ⟨#[]⟩, .bool false, .int .i64 0, .int .i64 0, .int .u32 0]) rfl
  clear hr2
  have HBX := Lib.hid (show _ = _ from hs2.box)
  have HRX := Lib.hid (show _ = _ from hs2.res)
  have HLAST := Lib.hid (hs2.last #[.int .i64 (n1 : Int), .int .u64 (n2 : Int), .int .i64 0, .int .i64 0, .int .i64 0, .int .i64 0, .int .i64 0, .int .u32 0, .int .u32 0, .int .u64 0, .slice none 0 0, .string ⟨#[]⟩, .bool false, .int .i64 0, .int .i64 0, .int .u32 0])
  clear hs2
  have hone : (#[.int .i64 (n1 : Int), .int .u64 (n2 : Int), .int .i64 0, .int .i64 0, .int .i64 0, .int .i64 0, .int .i64 0, .int .u32 0, .int .u32 0, .int .u64 0, .slice none 0 0, .string ⟨#[]⟩, .bool false, .int .i64 0, .int .i64 0, .int .u32 0] : Array Value).all (fun x => x.oneCell') = true := by simp [Value.oneCell']
  have HONE := Lib.hid hone
  clear hone
  have HOLD := Lib.hid (show (#[.int .i64 0, .int .u64 0, .int .i64 0, .int .i64 0, .int .i64 0, .int .i64 0, .int .i64 0, .int .u32 0, .int .u32 0, .int .u64 0, .slice none 0 0, .string ⟨#[]⟩, .bool false, .int .i64 0, .int .i64 0, .int .u32 0] : Array Value).size = (#[.int .i64 (n1 : Int), .int .u64 (n2 : Int), .int .i64 0, .int .i64 0, .int .i64 0, .int .i64 0, .int .i64 0, .int .u32 0, .int .u32 0, .int .u64 0, .slice none 0 0, .string ⟨#[]⟩, .bool false, .int .i64 0, .int .i64 0, .int .u32 0] : Array Value).size by simp)
  have HSZ := Lib.hid (req_size.trans (show some 16 = some (#[.int .i64 (n1 : Int), .int .u64 (n2 : Int), .int .i64 0, .int .i64 0, .int .i64 0, .int .i64 0, .int .i64 0, .int .u32 0, .int .u32 0, .int .u64 0, .slice none 0 0, .string ⟨#[]⟩, .bool false, .int .i64 0, .int .i64 0, .int .u32 0] : Array Value).size by simp))
  go_wp2_with (first
    | (refine wpList_load_row rfl 32 _ rfl w1.heap.size rfl 32 _ (0, 0) _ HBX.out Try.underlying32 rfl HSZ.out ?_)
    | (refine wpList_store_rowTo rfl 32 _ _ rfl rfl w.heap.size #[.int .i64 (n1 : Int), .int .u64 (n2 : Int), .int .i64 0, .int .i64 0, .int .i64 0, .int .i64 0, .int .i64 0, .int .u32 0, .int .u32 0, .int .u64 0, .slice none 0 0, .string ⟨#[]⟩, .bool false, .int .i64 0, .int .i64 0, .int .u32 0] rfl rfl 32 #[.int .i64 0, .int .u64 0, .int .i64 0, .int .i64 0, .int .i64 0, .int .i64 0, .int .i64 0, .int .u32 0, .int .u32 0, .int .u64 0, .slice none 0 0, .string ⟨#[]⟩, .bool false, .int .i64 0, .int .i64 0, .int .u32 0] HRX.out HSZ.out HOLD.out HONE.out ?_))
  refine bodyPost_ret (results_cell_row rfl _ _ w.heap.size 32 #[.int .i64 (n1 : Int), .int .u64 (n2 : Int), .int .i64 0, .int .i64 0, .int .i64 0, .int .i64 0, .int .i64 0, .int .u32 0, .int .u32 0, .int .u64 0, .slice none 0 0, .string ⟨#[]⟩, .bool false, .int .i64 0, .int .i64 0, .int .u32 0] (0, 0) _ rfl (setRow_heap _ _ _ _ _ _ HRX.out) Try.underlying32 rfl HSZ.out) rfl ?_
  have hwb : Below w.heap.size w _ := (HLAST.out.2).below (Nat.le_refl _) (fun k hk => by omega)
  exact ⟨_, rfl, OpsFrom.nil _ _, hwb⟩
end Go.Proofs.Ytbdbbnpkekcefaa.Cmd

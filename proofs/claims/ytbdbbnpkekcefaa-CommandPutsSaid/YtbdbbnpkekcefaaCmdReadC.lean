/- What bytes are read as: the walks of command.read, a class of tags each. -/
import Derived.Test.YtbdbbnpkekcefaaGCmdReadA
namespace Go.Proofs.Ytbdbbnpkekcefaa.Cmd
open Go.Proofs.Ytbdbbnpkekcefaa.Mem Go.Proofs.Ytbdbbnpkekcefaa.Pack
open Go.ChangeShapes Go.WideShapes Go.ChangeAt Go.RowKit
set_option linter.unusedVariables false
set_option linter.unusedSimpArgs false

set_option maxRecDepth 100000 in
set_option maxHeartbeats 4000000 in
theorem read_c11 (a : Option Addr) (cap : Nat) (zs : List Int) (w : World) (h : Row w a zs.length zs) (hn : a = none → cap = 0) (hl : zs.length ≤ 1073741824) (P : Pos) (hP : P = ⟨zs, false⟩) (hk : (P.num 1 : Int) = 11) :
    Calls Try.prog 20 #[.slice a zs.length cap] w fun e w' => ReadIs P w e w' := by
  have b1 : Bytes P.zs := by rw [hP]; exact h.2.1
  have hr0 : ∀ t cs, Row (w.alloc (.cells cs t)) a zs.length zs := fun t cs => h.below ((Below.refl _ _).alloc (Nat.le_refl _) _)
  have hnew := fun t cs => new_any a zs.length cap zs _ (hr0 t cs) hn hl
  have HNEW := Lib.hid hnew
  have l1 := num1_lt b1
  have k1 := fun p D w => rdP_number p D P 1 (by omega) (by omega) w
  obtain ⟨n1, hn1⟩ : ∃ n, n = P.num 1 := ⟨_, rfl⟩
  obtain ⟨p1, hp1⟩ : ∃ x, x = P.skip 1 := ⟨_, rfl⟩
  have b2 : Bytes p1.zs := by rw [hp1]; exact skip_bytes b1 1
  rw [← hn1] at k1 l1 hk
  rw [← hp1] at k1
  have hpr := fun w => parts_c11 hk w
  have k2 := fun p D w => nextToken_any p D p1 w
  obtain ⟨⟨tb, tg, ts, tx⟩, hn2⟩ : ∃ n, n = rdTok p1 := ⟨_, rfl⟩
  obtain ⟨p2, hp2⟩ : ∃ x, x = endTok p1 := ⟨_, rfl⟩
  have b3 : Bytes p2.zs := by rw [hp2]; exact endTok_bytes b2
  rw [← hn2, ← hp2] at k2
  simp only [tv] at k2
  have hq : readRq P = ⟨(n1 : Int), 0, 0, zeroQuo, ⟨tb, tg, ts, tx⟩, [], nothing, false, 0, 0, 0⟩ := by
    unfold readRq
    rw [← hn1, ← hp1, rdBody_c11 hk]
    rw [← hn2]
  unfold ReadIs
  rw [hq]
  have HPP := Lib.hid hP
  clear h hn hl hr0 hnew hk hP hq hn1 hp1 hn2 hp2 b1 b2 b3
  simp only [rv, rcells, zeroQuo, zeroTok, nothing]
  go_enter Try.func20, Try.ntmps20
  go_wp2_with fail
  refine (HNEW.out _ _).mono ?_
  rintro e v1 ⟨p, rfl, hp, D, hrd, hb1, hD1, hD2⟩
  have hres := (Blk.new w 32 #[.int .i64 0, .int .u64 0, .int .i64 0, .int .i64 0, .int .i64 0, .int .i64 0, .int .i64 0, .int .u32 0, .int .u32 0, .int .u64 0, .slice none 0 0, .string ⟨#[]⟩, .bool false, .int .i64 0, .int .i64 0, .int .u32 0]).but (But.of_new hb1 (S := fun _ => False)) (fun e => e)
  have hbut1 : But (fun k => k = p) w v1 := ((But.refl (fun k => k = p) w).alloc (.cells #[.int .i64 0, .int .u64 0, .int .i64 0, .int .i64 0, .int .i64 0, .int .i64 0, .int .i64 0, .int .u32 0, .int .u32 0, .int .u64 0, .slice none 0 0, .string ⟨#[]⟩, .bool false, .int .i64 0, .int .i64 0, .int .u32 0] 32)).trans (But.of_new (S := fun _ => False) hb1) (fun _ _ e => e.elim)
  have hsz : w.heap.size < p ∧ w.heap.size < D := by simp at hp hD1; omega
  have HP := Lib.hid hsz
  have hrd1 : RdP p D v1 P := by rw [HPP.out]; exact hrd
  clear hrd hb1 hp hD1 HNEW
  go_wp2_with fail
  refine (k1 p D _ hrd1).mono ?_
  rintro e w1 ⟨rfl, hr, hb⟩
  have hres1 := hres.but hb (fun e => by omega)
  have hbut2 := hbut1.trans' hb
  have hD3 : D < w1.heap.size := by have := hr.lt; omega
  have hs1 := Rdg.begin hr hres1 hbut2 (Nat.le_refl _) (by omega) hD3 #[.int .i64 (n1 : Int), .int .u64 0, .int .i64 0, .int .i64 0, .int .i64 0, .int .i64 0, .int .i64 0, .int .u32 0, .int .u32 0, .int .u64 0, .slice none 0 0, .string ⟨#[]⟩, .bool false, .int .i64 0, .int .i64 0, .int .u32 0]
  have c0 : World.cell? _ ⟨w1.heap.size, 0, none⟩ = some (.int .i64 (n1 : Int)) := hs1.cell 0 rfl
  clear hr hb hres hres1 hbut1 hbut2 hrd1 k1
  go_wp2_with fail
  clear c0
  refine (hpr _).mono ?_
  rintro e w0 ⟨rfl, rfl⟩
  clear hpr
  go_wp2_with fail
  refine (k2 p D _ hs1.rd (by have := hs1.box.lt; omega)).mono ?_
  rintro e w2 ⟨rfl, hr, hb⟩
  have hr2 := hs1.read hr hb
  clear hr hb hs1 k2
  have c6 : w2.cell? ⟨w1.heap.size, 6, none⟩ = some (.int .i64 0) := hr2.cell 6 rfl
  have f6 : w2.frozen? ⟨w1.heap.size, 6, none⟩ = false := hr2.frozen 6
  have c7 : w2.cell? ⟨w1.heap.size, 7, none⟩ = some (.int .u32 0) := hr2.cell 7 rfl
  have f7 : w2.frozen? ⟨w1.heap.size, 7, none⟩ = false := hr2.frozen 7
  have c8 : w2.cell? ⟨w1.heap.size, 8, none⟩ = some (.int .u32 0) := hr2.cell 8 rfl
  have f8 : w2.frozen? ⟨w1.heap.size, 8, none⟩ = false := hr2.frozen 8
  have c9 : w2.cell? ⟨w1.heap.size, 9, none⟩ = some (.int .u64 0) := hr2.cell 9 rfl
  have f9 : w2.frozen? ⟨w1.heap.size, 9, none⟩ = false := hr2.frozen 9
  have hq0 := hr2.set 6 (.int .i64 tb) (cs' := #[.int .i64 (n1 : Int), .int .u64 0, .int .i64 0, .int .i64 0, .int .i64 0, .int .i64 0, .int .i64 tb, .int .u32 0, .int .u32 0, .int .u64 0, .slice none 0 0, .string ⟨#[]⟩, .bool false, .int .i64 0, .int .i64 0, .int .u32 0]) rfl
  have hq1 := hq0.set 7 (.int .u32 (tg : Int)) (cs' := #[.int .i64 (n1 : Int), .int .u64 0, .int .i64 0, .int .i64 0, .int .i64 0, .int .i64 0, .int .i64 tb, .int .u32 (tg : Int), .int .u32 0, .int .u64 0, .slice none 0 0, .string ⟨#[]⟩, .bool false, .int .i64 0, .int .i64 0, .int .u32 0]) rfl
  have hq2 := hq1.set 8 (.int .u32 (ts : Int)) (cs' := #[.int .i64 (n1 : Int), .int .u64 0, .int .i64 0, .int .i64 0, .int .i64 0, .int .i64 0, .int .i64 tb, .int .u32 (tg : Int), .int .u32 (ts : Int), .int .u64 0, .slice none 0 0, .string ⟨#[]⟩, .bool false, .int .i64 0, .int .i64 0, .int .u32 0]) rfl
  have hq3 := hq2.set 9 (.int .u64 (tx : Int)) (cs' := #[.int .i64 (n1 : Int), .int .u64 0, .int .i64 0, .int .i64 0, .int .i64 0, .int .i64 0, .int .i64 tb, .int .u32 (tg : Int), .int .u32 (ts : Int), .int .u64 (tx : Int), .slice none 0 0, .string ⟨#[]⟩, .bool false, .int .i64 0, .int .i64 0, .int .u32 0]) rfl
  have hs2 := hq3
  clear hq0 hq1 hq2 hq3 hr2
  have HBX := Lib.hid (show _ = _ from hs2.box)
  have HRX := Lib.hid (show _ = _ from hs2.res)
  have HLAST := Lib.hid (hs2.last #[.int .i64 (n1 : Int), .int .u64 0, .int .i64 0, .int .i64 0, .int .i64 0, .int .i64 0, .int .i64 tb, .int .u32 (tg : Int), .int .u32 (ts : Int), .int .u64 (tx : Int), .slice none 0 0, .string ⟨#[]⟩, .bool false, .int .i64 0, .int .i64 0, .int .u32 0])
  clear hs2
  have hone : (#[.int .i64 (n1 : Int), .int .u64 0, .int .i64 0, .int .i64 0, .int .i64 0, .int .i64 0, .int .i64 tb, .int .u32 (tg : Int), .int .u32 (ts : Int), .int .u64 (tx : Int), .slice none 0 0, .string ⟨#[]⟩, .bool false, .int .i64 0, .int .i64 0, .int .u32 0] : Array Value).all (fun x => x.oneCell') = true := by simp [Value.oneCell']
  have HONE := Lib.hid hone
  clear hone
  have HOLD := Lib.hid (show (#[.int .i64 0, .int .u64 0, .int .i64 0, .int .i64 0, .int .i64 0, .int .i64 0, .int .i64 0, .int .u32 0, .int .u32 0, .int .u64 0, .slice none 0 0, .string ⟨#[]⟩, .bool false, .int .i64 0, .int .i64 0, .int .u32 0] : Array Value).size = (#[.int .i64 (n1 : Int), .int .u64 0, .int .i64 0, .int .i64 0, .int .i64 0, .int .i64 0, .int .i64 tb, .int .u32 (tg : Int), .int .u32 (ts : Int), .int .u64 (tx : Int), .slice none 0 0, .string ⟨#[]⟩, .bool false, .int .i64 0, .int .i64 0, .int .u32 0] : Array Value).size by simp)
  have HSZ := Lib.hid (req_size.trans (show some 16 = some (#[.int .i64 (n1 : Int), .int .u64 0, .int .i64 0, .int .i64 0, .int .i64 0, .int .i64 0, .int .i64 tb, .int .u32 (tg : Int), .int .u32 (ts : Int), .int .u64 (tx : Int), .slice none 0 0, .string ⟨#[]⟩, .bool false, .int .i64 0, .int .i64 0, .int .u32 0] : Array Value).size by simp))
  go_wp2_with (first
    | (refine wpList_load_row rfl 32 _ rfl w1.heap.size rfl 32 _ (0, 0) _ HBX.out Try.underlying32 rfl HSZ.out ?_)
    | (refine wpList_store_rowTo rfl 32 _ _ rfl rfl w.heap.size #[.int .i64 (n1 : Int), .int .u64 0, .int .i64 0, .int .i64 0, .int .i64 0, .int .i64 0, .int .i64 tb, .int .u32 (tg : Int), .int .u32 (ts : Int), .int .u64 (tx : Int), .slice none 0 0, .string ⟨#[]⟩, .bool false, .int .i64 0, .int .i64 0, .int .u32 0] rfl rfl 32 #[.int .i64 0, .int .u64 0, .int .i64 0, .int .i64 0, .int .i64 0, .int .i64 0, .int .i64 0, .int .u32 0, .int .u32 0, .int .u64 0, .slice none 0 0, .string ⟨#[]⟩, .bool false, .int .i64 0, .int .i64 0, .int .u32 0] HRX.out HSZ.out HOLD.out HONE.out ?_))
  refine bodyPost_ret (results_cell_row rfl _ _ w.heap.size 32 #[.int .i64 (n1 : Int), .int .u64 0, .int .i64 0, .int .i64 0, .int .i64 0, .int .i64 0, .int .i64 tb, .int .u32 (tg : Int), .int .u32 (ts : Int), .int .u64 (tx : Int), .slice none 0 0, .string ⟨#[]⟩, .bool false, .int .i64 0, .int .i64 0, .int .u32 0] (0, 0) _ rfl (setRow_heap _ _ _ _ _ _ HRX.out) Try.underlying32 rfl HSZ.out) rfl ?_
  have hwb : Below w.heap.size w _ := (HLAST.out.2).below (Nat.le_refl _) (fun k hk => by omega)
  exact ⟨_, rfl, OpsFrom.nil _ _, hwb⟩
set_option maxRecDepth 100000 in
set_option maxHeartbeats 4000000 in
theorem read_c12 (a : Option Addr) (cap : Nat) (zs : List Int) (w : World) (h : Row w a zs.length zs) (hn : a = none → cap = 0) (hl : zs.length ≤ 1073741824) (P : Pos) (hP : P = ⟨zs, false⟩) (hk : (P.num 1 : Int) = 12) :
    Calls Try.prog 20 #[.slice a zs.length cap] w fun e w' => ReadIs P w e w' := by
  have b1 : Bytes P.zs := by rw [hP]; exact h.2.1
  have hr0 : ∀ t cs, Row (w.alloc (.cells cs t)) a zs.length zs := fun t cs => h.below ((Below.refl _ _).alloc (Nat.le_refl _) _)
  have hnew := fun t cs => new_any a zs.length cap zs _ (hr0 t cs) hn hl
  have HNEW := Lib.hid hnew
  have l1 := num1_lt b1
  have k1 := fun p D w => rdP_number p D P 1 (by omega) (by omega) w
  obtain ⟨n1, hn1⟩ : ∃ n, n = P.num 1 := ⟨_, rfl⟩
  obtain ⟨p1, hp1⟩ : ∃ x, x = P.skip 1 := ⟨_, rfl⟩
  have b2 : Bytes p1.zs := by rw [hp1]; exact skip_bytes b1 1
  rw [← hn1] at k1 l1 hk
  rw [← hp1] at k1
  have hpr := fun w => parts_c12 hk w
  have k2 := fun p D w => nextToken_any p D p1 w
  obtain ⟨⟨tb, tg, ts, tx⟩, hn2⟩ : ∃ n, n = rdTok p1 := ⟨_, rfl⟩
  obtain ⟨p2, hp2⟩ : ∃ x, x = endTok p1 := ⟨_, rfl⟩
  have b3 : Bytes p2.zs := by rw [hp2]; exact endTok_bytes b2
  rw [← hn2, ← hp2] at k2
  simp only [tv] at k2
  have l3 := num1_lt b3
  have k3 := fun p D w => rdP_number p D p2 1 (by omega) (by omega) w
  obtain ⟨n3, hn3⟩ : ∃ n, n = p2.num 1 := ⟨_, rfl⟩
  obtain ⟨p3, hp3⟩ : ∃ x, x = p2.skip 1 := ⟨_, rfl⟩
  have b4 : Bytes p3.zs := by rw [hp3]; exact skip_bytes b3 1
  rw [← hn3] at k3 l3
  rw [← hp3] at k3
  have hq : readRq P = ⟨(n1 : Int), 0, 0, zeroQuo, ⟨tb, tg, ts, tx⟩, [], nothing, false, 0, (n3 : Int), 0⟩ := by
    unfold readRq
    rw [← hn1, ← hp1, rdBody_c12 hk]
    rw [← hn2, ← hp2, ← hn3]
  unfold ReadIs
  rw [hq]
  have HPP := Lib.hid hP
  clear h hn hl hr0 hnew hk hP hq hn1 hp1 hn2 hp2 hn3 hp3 b1 b2 b3 b4
  simp only [rv, rcells, zeroQuo, zeroTok, nothing]
  go_enter Try.func20, Try.ntmps20
  go_wp2_with fail
  refine (HNEW.out _ _).mono ?_
  rintro e v1 ⟨p, rfl, hp, D, hrd, hb1, hD1, hD2⟩
  have hres := (Blk.new w 32 #[.int .i64 0, .int .u64 0, .int .i64 0, .int .i64 0, .int .i64 0, .int .i64 0, .int .i64 0, .int .u32 0, .int .u32 0, .int .u64 0, .slice none 0 0, .string ⟨#[]⟩, .bool false, .int .i64 0, .int .i64 0, .int .u32 0]).but (But.of_new hb1 (S := fun _ => False)) (fun e => e)
  have hbut1 : But (fun k => k = p) w v1 := ((But.refl (fun k => k = p) w).alloc (.cells #[.int .i64 0, .int .u64 0, .int .i64 0, .int .i64 0, .int .i64 0, .int .i64 0, .int .i64 0, .int .u32 0, .int .u32 0, .int .u64 0, .slice none 0 0, .string ⟨#[]⟩, .bool false, .int .i64 0, .int .i64 0, .int .u32 0] 32)).trans (But.of_new (S := fun _ => False) hb1) (fun _ _ e => e.elim)
  have hsz : w.heap.size < p ∧ w.heap.size < D := by simp at hp hD1; omega
  have HP := Lib.hid hsz
  have hrd1 : RdP p D v1 P := by rw [HPP.out]; exact hrd
  clear hrd hb1 hp hD1 HNEW
  go_wp2_with fail
  refine (k1 p D _ hrd1).mono ?_
  rintro e w1 ⟨rfl, hr, hb⟩
  have hres1 := hres.but hb (fun e => by omega)
  have hbut2 := hbut1.trans' hb
  have hD3 : D < w1.heap.size := by have := hr.lt; omega
  have hs1 := Rdg.begin hr hres1 hbut2 (Nat.le_refl _) (by omega) hD3 #[.int .i64 (n1 : Int), .int .u64 0, .int .i64 0, .int .i64 0, .int .i64 0, .int .i64 0, .int .i64 0, .int .u32 0, .int .u32 0, .int .u64 0, .slice none 0 0, .string ⟨#[]⟩, .bool false, .int .i64 0, .int .i64 0, .int .u32 0]
  have c0 : World.cell? _ ⟨w1.heap.size, 0, none⟩ = some (.int .i64 (n1 : Int)) := hs1.cell 0 rfl
  clear hr hb hres hres1 hbut1 hbut2 hrd1 k1
  go_wp2_with fail
  clear c0
  refine (hpr _).mono ?_
  rintro e w0 ⟨rfl, rfl⟩
  clear hpr
  go_wp2_with fail
  refine (k2 p D _ hs1.rd (by have := hs1.box.lt; omega)).mono ?_
  rintro e w2 ⟨rfl, hr, hb⟩
  have hr2 := hs1.read hr hb
  clear hr hb hs1 k2
  have c6 : w2.cell? ⟨w1.heap.size, 6, none⟩ = some (.int .i64 0) := hr2.cell 6 rfl
  have f6 : w2.frozen? ⟨w1.heap.size, 6, none⟩ = false := hr2.frozen 6
  have c7 : w2.cell? ⟨w1.heap.size, 7, none⟩ = some (.int .u32 0) := hr2.cell 7 rfl
  have f7 : w2.frozen? ⟨w1.heap.size, 7, none⟩ = false := hr2.frozen 7
  have c8 : w2.cell? ⟨w1.heap.size, 8, none⟩ = some (.int .u32 0) := hr2.cell 8 rfl
  have f8 : w2.frozen? ⟨w1.heap.size, 8, none⟩ = false := hr2.frozen 8
  have c9 : w2.cell? ⟨w1.heap.size, 9, none⟩ = some (.int .u64 0) := hr2.cell 9 rfl
  have f9 : w2.frozen? ⟨w1.heap.size, 9, none⟩ = false := hr2.frozen 9
  have hq0 := hr2.set 6 (.int .i64 tb) (cs' := #[.int .i64 (n1 : Int), .int .u64 0, .int .i64 0, .int .i64 0, .int .i64 0, .int .i64 0, .int .i64 tb, .int .u32 0, .int .u32 0, .int .u64 0, .slice none 0 0, .string ⟨#[]⟩, .bool false, .int .i64 0, .int .i64 0, .int .u32 0]) rfl
  have hq1 := hq0.set 7 (.int .u32 (tg : Int)) (cs' := #[.int .i64 (n1 : Int), .int .u64 0, .int .i64 0, .int .i64 0, .int .i64 0, .int .i64 0, .int .i64 tb, .int .u32 (tg : Int), .int .u32 0, .int .u64 0, .slice none 0 0, .string ⟨#[]⟩, .bool false, .int .i64 0, .int .i64 0, .int .u32 0]) rfl
  have hq2 := hq1.set 8 (.int .u32 (ts : Int)) (cs' := #[.int .i64 (n1 : Int), .int .u64 0, .int .i64 0, .int .i64 0, .int .i64 0, .int .i64 0, .int .i64 tb, .int .u32 (tg : Int), .int .u32 (ts : Int), .int .u64 0, .slice none 0 0, .string ⟨#[]⟩, .bool false, .int .i64 0, .int .i64 0, .int .u32 0]) rfl
  have hq3 := hq2.set 9 (.int .u64 (tx : Int)) (cs' := #[.int .i64 (n1 : Int), .int .u64 0, .int .i64 0, .int .i64 0, .int .i64 0, .int .i64 0, .int .i64 tb, .int .u32 (tg : Int), .int .u32 (ts : Int), .int .u64 (tx : Int), .slice none 0 0, .string ⟨#[]⟩, .bool false, .int .i64 0, .int .i64 0, .int .u32 0]) rfl
  have hs2 := hq3
  clear hq0 hq1 hq2 hq3 hr2
  go_wp2_with fail
  refine (k3 p D _ hs2.rd).mono ?_
  rintro e w3 ⟨rfl, hr, hb⟩
  have hr3 := hs2.read hr hb
  clear hr hb hs2 k3
  have c14 : w3.cell? ⟨w1.heap.size, 14, none⟩ = some (.int .i64 0) := hr3.cell 14 rfl
  have f14 : w3.frozen? ⟨w1.heap.size, 14, none⟩ = false := hr3.frozen 14
  have hs3 := hr3.set 14 (.int .i64 (n3 : Int)) (cs' := #[.int .i64 (n1 : Int), .int .u64 0, .int .i64 0, .int .i64 0, .int .i64 0, .int .i64 0, .int .i64 tb, .int .u32 (tg : Int), .int .u32 (ts : Int), .int .u64 (tx : Int), .slice none 0 0, .string ⟨#[]⟩, .bool false, .int .i64 0, .int .i64 (n3 : Int), .int .u32 0]) rfl
  clear hr3
  have HBX := Lib.hid (show _ = _ from hs3.box)
  have HRX := Lib.hid (show _ = _ from hs3.res)
  have HLAST := Lib.hid (hs3.last #[.int .i64 (n1 : Int), .int .u64 0, .int .i64 0, .int .i64 0, .int .i64 0, .int .i64 0, .int .i64 tb, .int .u32 (tg : Int), .int .u32 (ts : Int), .int .u64 (tx : Int), .slice none 0 0, .string ⟨#[]⟩, .bool false, .int .i64 0, .int .i64 (n3 : Int), .int .u32 0])
  clear hs3
  have hone : (#[.int .i64 (n1 : Int), .int .u64 0, .int .i64 0, .int .i64 0, .int .i64 0, .int .i64 0, .int .i64 tb, .int .u32 (tg : Int), .int .u32 (ts : Int), .int .u64 (tx : Int), .slice none 0 0, .string ⟨#[]⟩, .bool false, .int .i64 0, .int .i64 (n3 : Int), .int .u32 0] : Array Value).all (fun x => x.oneCell') = true := by simp [Value.oneCell']
  have HONE := Lib.hid hone
  clear hone
  have HOLD := Lib.hid (show (#[.int .i64 0, .int .u64 0, .int .i64 0, .int .i64 0, .int .i64 0, .int .i64 0, .int .i64 0, .int .u32 0, .int .u32 0, .int .u64 0, .slice none 0 0, .string ⟨#[]⟩, .bool false, .int .i64 0, .int .i64 0, .int .u32 0] : Array Value).size = (#[.int .i64 (n1 : Int), .int .u64 0, .int .i64 0, .int .i64 0, .int .i64 0, .int .i64 0, .int .i64 tb, .int .u32 (tg : Int), .int .u32 (ts : Int), .int .u64 (tx : Int), .slice none 0 0, .string ⟨#[]⟩, .bool false, .int .i64 0, .int .i64 (n3 : Int), .int .u32 0] : Array Value).size by simp)
  have HSZ := Lib.hid (req_size.trans (show some 16 = some (#[.int .i64 (n1 : Int), .int .u64 0, .int .i64 0, .int .i64 0, .int .i64 0, .int .i64 0, .int .i64 tb, .int .u32 (tg : Int), .int .u32 (ts : Int), .int .u64 (tx : Int), .slice none 0 0, .string ⟨#[]⟩, .bool false, .int .i64 0, .int .i64 (n3 : Int), .int .u32 0] : Array Value).size by simp))
  go_wp2_with (first
    | (refine wpList_load_row rfl 32 _ rfl w1.heap.size rfl 32 _ (0, 0) _ HBX.out Try.underlying32 rfl HSZ.out ?_)
    | (refine wpList_store_rowTo rfl 32 _ _ rfl rfl w.heap.size #[.int .i64 (n1 : Int), .int .u64 0, .int .i64 0, .int .i64 0, .int .i64 0, .int .i64 0, .int .i64 tb, .int .u32 (tg : Int), .int .u32 (ts : Int), .int .u64 (tx : Int), .slice none 0 0, .string ⟨#[]⟩, .bool false, .int .i64 0, .int .i64 (n3 : Int), .int .u32 0] rfl rfl 32 #[.int .i64 0, .int .u64 0, .int .i64 0, .int .i64 0, .int .i64 0, .int .i64 0, .int .i64 0, .int .u32 0, .int .u32 0, .int .u64 0, .slice none 0 0, .string ⟨#[]⟩, .bool false, .int .i64 0, .int .i64 0, .int .u32 0] HRX.out HSZ.out HOLD.out HONE.out ?_))
  refine bodyPost_ret (results_cell_row rfl _ _ w.heap.size 32 #[.int .i64 (n1 : Int), .int .u64 0, .int .i64 0, .int .i64 0, .int .i64 0, .int .i64 0, .int .i64 tb, .int .u32 (tg : Int), .int .u32 (ts : Int), .int .u64 (tx : Int), .slice none 0 0, .string ⟨#[]⟩, .bool false, .int .i64 0, .int .i64 (n3 : Int), .int .u32 0] (0, 0) _ rfl (setRow_heap _ _ _ _ _ _ HRX.out) Try.underlying32 rfl HSZ.out) rfl ?_
  have hwb : Below w.heap.size w _ := (HLAST.out.2).below (Nat.le_refl _) (fun k hk => by omega)
  exact ⟨_, rfl, OpsFrom.nil _ _, hwb⟩
set_option maxRecDepth 100000 in
set_option maxHeartbeats 4000000 in
theorem read_c13 (a : Option Addr) (cap : Nat) (zs : List Int) (w : World) (h : Row w a zs.length zs) (hn : a = none → cap = 0) (hl : zs.length ≤ 1073741824) (P : Pos) (hP : P = ⟨zs, false⟩) (hk : (P.num 1 : Int) = 13) :
    Calls Try.prog 20 #[.slice a zs.length cap] w fun e w' => ReadIs P w e w' := by
  have b1 : Bytes P.zs := by rw [hP]; exact h.2.1
  have hr0 : ∀ t cs, Row (w.alloc (.cells cs t)) a zs.length zs := fun t cs => h.below ((Below.refl _ _).alloc (Nat.le_refl _) _)
  have hnew := fun t cs => new_any a zs.length cap zs _ (hr0 t cs) hn hl
  have HNEW := Lib.hid hnew
  have l1 := num1_lt b1
  have k1 := fun p D w => rdP_number p D P 1 (by omega) (by omega) w
  obtain ⟨n1, hn1⟩ : ∃ n, n = P.num 1 := ⟨_, rfl⟩
  obtain ⟨p1, hp1⟩ : ∃ x, x = P.skip 1 := ⟨_, rfl⟩
  have b2 : Bytes p1.zs := by rw [hp1]; exact skip_bytes b1 1
  rw [← hn1] at k1 l1 hk
  rw [← hp1] at k1
  have hpr := fun w => parts_c13 hk w
  have k2 := fun p D w => nextToken_any p D p1 w
  obtain ⟨⟨tb, tg, ts, tx⟩, hn2⟩ : ∃ n, n = rdTok p1 := ⟨_, rfl⟩
  obtain ⟨p2, hp2⟩ : ∃ x, x = endTok p1 := ⟨_, rfl⟩
  have b3 : Bytes p2.zs := by rw [hp2]; exact endTok_bytes b2
  rw [← hn2, ← hp2] at k2
  simp only [tv] at k2
  have l3 := num4_lt b3
  have k3 := fun p D w => rdP_number p D p2 4 (by omega) (by omega) w
  obtain ⟨n3, hn3⟩ : ∃ n, n = p2.num 4 := ⟨_, rfl⟩
  obtain ⟨p3, hp3⟩ : ∃ x, x = p2.skip 4 := ⟨_, rfl⟩
  have b4 : Bytes p3.zs := by rw [hp3]; exact skip_bytes b3 4
  rw [← hn3] at k3 l3
  rw [← hp3] at k3
  have hq : readRq P = ⟨(n1 : Int), 0, 0, zeroQuo, ⟨tb, tg, ts, tx⟩, [], nothing, false, 0, 0, n3⟩ := by
    unfold readRq
    rw [← hn1, ← hp1, rdBody_c13 hk]
    rw [← hn2, ← hp2, ← hn3]
  unfold ReadIs
  rw [hq]
  have HPP := Lib.hid hP
  clear h hn hl hr0 hnew hk hP hq hn1 hp1 hn2 hp2 hn3 hp3 b1 b2 b3 b4
  simp only [rv, rcells, zeroQuo, zeroTok, nothing]
  go_enter Try.func20, Try.ntmps20
  go_wp2_with fail
  refine (HNEW.out _ _).mono ?_
  rintro e v1 ⟨p, rfl, hp, D, hrd, hb1, hD1, hD2⟩
  have hres := (Blk.new w 32 #[.int .i64 0, .int .u64 0, .int .i64 0, .int .i64 0, .int .i64 0, .int .i64 0, .int .i64 0, .int .u32 0, .int .u32 0, .int .u64 0, .slice none 0 0, .string ⟨#[]⟩, .bool false, .int .i64 0, .int .i64 0, .int .u32 0]).but (But.of_new hb1 (S := fun _ => False)) (fun e => e)
  have hbut1 : But (fun k => k = p) w v1 := ((But.refl (fun k => k = p) w).alloc (.cells #[.int .i64 0, .int .u64 0, .int .i64 0, .int .i64 0, .int .i64 0, .int .i64 0, .int .i64 0, .int .u32 0, .int .u32 0, .int .u64 0, .slice none 0 0, .string ⟨#[]⟩, .bool false, .int .i64 0, .int .i64 0, .int .u32 0] 32)).trans (But.of_new (S := fun _ => False) hb1) (fun _ _ e => e.elim)
  have hsz : w.heap.size < p ∧ w.heap.size < D := by simp at hp hD1; omega
  have HP := Lib.hid hsz
  have hrd1 : RdP p D v1 P := by rw [HPP.out]; exact hrd
  clear hrd hb1 hp hD1 HNEW
  go_wp2_with fail
  refine (k1 p D _ hrd1).mono ?_
  rintro e w1 ⟨rfl, hr, hb⟩
  have hres1 := hres.but hb (fun e => by omega)
  have hbut2 := hbut1.trans' hb
  have hD3 : D < w1.heap.size := by have := hr.lt; omega
  have hs1 := Rdg.begin hr hres1 hbut2 (Nat.le_refl _) (by omega) hD3 #[.int .i64 (n1 : Int), .int .u64 0, .int .i64 0, .int .i64 0, .int .i64 0, .int .i64 0, .int .i64 0, .int .u32 0, .int .u32 0, .int .u64 0, .slice none 0 0, .string ⟨#[]⟩, .bool false, .int .i64 0, .int .i64 0, .int .u32 0]
  have c0 : World.cell? _ ⟨w1.heap.size, 0, none⟩ = some (.int .i64 (n1 : Int)) := hs1.cell 0 rfl
  clear hr hb hres hres1 hbut1 hbut2 hrd1 k1
  go_wp2_with fail
  clear c0
  refine (hpr _).mono ?_
  rintro e w0 ⟨rfl, rfl⟩
  clear hpr
  go_wp2_with fail
  refine (k2 p D _ hs1.rd (by have := hs1.box.lt; omega)).mono ?_
  rintro e w2 ⟨rfl, hr, hb⟩
  have hr2 := hs1.read hr hb
  clear hr hb hs1 k2
  have c6 : w2.cell? ⟨w1.heap.size, 6, none⟩ = some (.int .i64 0) := hr2.cell 6 rfl
  have f6 : w2.frozen? ⟨w1.heap.size, 6, none⟩ = false := hr2.frozen 6
  have c7 : w2.cell? ⟨w1.heap.size, 7, none⟩ = some (.int .u32 0) := hr2.cell 7 rfl
  have f7 : w2.frozen? ⟨w1.heap.size, 7, none⟩ = false := hr2.frozen 7
  have c8 : w2.cell? ⟨w1.heap.size, 8, none⟩ = some (.int .u32 0) := hr2.cell 8 rfl
  have f8 : w2.frozen? ⟨w1.heap.size, 8, none⟩ = false := hr2.frozen 8
  have c9 : w2.cell? ⟨w1.heap.size, 9, none⟩ = some (.int .u64 0) := hr2.cell 9 rfl
  have f9 : w2.frozen? ⟨w1.heap.size, 9, none⟩ = false := hr2.frozen 9
  have hq0 := hr2.set 6 (.int .i64 tb) (cs' := #[.int .i64 (n1 : Int), .int .u64 0, .int .i64 0, .int .i64 0, .int .i64 0, .int .i64 0, .int .i64 tb, .int .u32 0, .int .u32 0, .int .u64 0, .slice none 0 0, .string ⟨#[]⟩, .bool false, .int .i64 0, .int .i64 0, .int .u32 0]) rfl
  have hq1 := hq0.set 7 (.int .u32 (tg : Int)) (cs' := #[.int .i64 (n1 : Int), .int .u64 0, .int .i64 0, .int .i64 0, .int .i64 0, .int .i64 0, .int .i64 tb, .int .u32 (tg : Int), .int .u32 0, .int .u64 0, .slice none 0 0, .string ⟨#[]⟩, .bool false, .int .i64 0, .int .i64 0, .int .u32 0]) rfl
  have hq2 := hq1.set 8 (.int .u32 (ts : Int)) (cs' := #[.int .i64 (n1 : Int), .int .u64 0, .int .i64 0, .int .i64 0, .int .i64 0, .int .i64 0, .int .i64 tb, .int .u32 (tg : Int), .int .u32 (ts : Int), .int .u64 0, .slice none 0 0, .string ⟨#[]⟩, .bool false, .int .i64 0, .int .i64 0, .int .u32 0]) rfl
  have hq3 := hq2.set 9 (.int .u64 (tx : Int)) (cs' := #[.int .i64 (n1 : Int), .int .u64 0, .int .i64 0, .int .i64 0, .int .i64 0, .int .i64 0, .int .i64 tb, .int .u32 (tg : Int), .int .u32 (ts : Int), .int .u64 (tx : Int), .slice none 0 0, .string ⟨#[]⟩, .bool false, .int .i64 0, .int .i64 0, .int .u32 0]) rfl
  have hs2 := hq3
  clear hq0 hq1 hq2 hq3 hr2
  go_wp2_with fail
  refine (k3 p D _ hs2.rd).mono ?_
  rintro e w3 ⟨rfl, hr, hb⟩
  have hr3 := hs2.read hr hb
  clear hr hb hs2 k3
  have c15 : w3.cell? ⟨w1.heap.size, 15, none⟩ = some (.int .u32 0) := hr3.cell 15 rfl
  have f15 : w3.frozen? ⟨w1.heap.size, 15, none⟩ = false := hr3.frozen 15
  have hs3 := hr3.set 15 (.int .u32 (n3 : Int)) (cs' := #[.int .i64 (n1 : Int), .int .u64 0, .int .i64 0, .int .i64 0, .int .i64 0, .int .i64 0, .int .i64 tb, .int .u32 (tg : Int), .int .u32 (ts : Int), .int .u64 (tx : Int), .slice none 0 0, .string ⟨#[]⟩, .bool false, .int .i64 0, .int .i64 0, .int .u32 (n3 : Int)]) rfl
  clear hr3
  have HBX := Lib.hid (show _ = _ from hs3.box)
  have HRX := Lib.hid (show _ = _ from hs3.res)
  have HLAST := Lib.hid (hs3.last #[.int .i64 (n1 : Int), .int .u64 0, .int .i64 0, .int .i64 0, .int .i64 0, .int .i64 0, .int .i64 tb, .int .u32 (tg : Int), .int .u32 (ts : Int), .int .u64 (tx : Int), .slice none 0 0, .string ⟨#[]⟩, .bool false, .int .i64 0, .int .i64 0, .int .u32 (n3 : Int)])
  clear hs3
  have hone : (#[.int .i64 (n1 : Int), .int .u64 0, .int .i64 0, .int .i64 0, .int .i64 0, .int .i64 0, .int .i64 tb, .int .u32 (tg : Int), .int .u32 (ts : Int), .int .u64 (tx : Int), .slice none 0 0, .string ⟨#[]⟩, .bool false, .int .i64 0, .int .i64 0, .int .u32 (n3 : Int)] : Array Value).all (fun x => x.oneCell') = true := by simp [Value.oneCell']
  have HONE := Lib.hid hone
  clear hone
  have HOLD := Lib.hid (show (#[.int .i64 0, .int .u64 0, .int .i64 0, .int .i64 0, .int .i64 0, .int .i64 0, .int .i64 0, .int .u32 0, .int .u32 0, .int .u64 0, .slice none 0 0, .string ⟨#[]⟩, .bool false, .int .i64 0, .int .i64 0, .int .u32 0] : Array Value).size = (#[.int .i64 (n1 : Int), .int .u64 0, .int .i64 0, .int .i64 0, .int .i64 0, .int .i64 0, .int .i64 tb, .int .u32 (tg : Int), .int .u32 (ts : Int), .int .u64 (tx : Int), .slice none 0 0, .string ⟨#[]⟩, .bool false, .int .i64 0, .int .i64 0, .int .u32 (n3 : Int)] : Array Value).size by simp)
  have HSZ := Lib.hid (req_size.trans (show some 16 = some (#[.int .i64 (n1 : Int), .int .u64 0, .int .i64 0, .int .i64 0, .int .i64 0, .int .i64 0, .int .i64 tb, .int .u32 (tg : Int), .int .u32 (ts : Int), .int .u64 (tx : Int), .slice none 0 0, .string ⟨#[]⟩, .bool false, .int .i64 0, .int .i64 0, .int .u32 (n3 : Int)] : Array Value).size by simp))
  go_wp2_with (first
    | (refine wpList_load_row rfl 32 _ rfl w1.heap.size rfl 32 _ (0, 0) _ HBX.out Try.underlying32 rfl HSZ.out ?_)
    | (refine wpList_store_rowTo rfl 32 _ _ rfl rfl w.heap.size #[.int .i64 (n1 : Int), .int .u64 0, .int .i64 0, .int .i64 0, .int .i64 0, .int .i64 0, .int .i64 tb, .int .u32 (tg : Int), .int .u32 (ts : Int), .int .u64 (tx : Int), .slice none 0 0, .string ⟨#[]⟩, .bool false, .int .i64 0, .int .i64 0, .int .u32 (n3 : Int)] rfl rfl 32 #[.int .i64 0, .int .u64 0, .int .i64 0, .int .i64 0, .int .i64 0, .int .i64 0, .int .i64 0, .int .u32 0, .int .u32 0, .int .u64 0, .slice none 0 0, .string ⟨#[]⟩, .bool false, .int .i64 0, .int .i64 0, .int .u32 0] HRX.out HSZ.out HOLD.out HONE.out ?_))
  refine bodyPost_ret (results_cell_row rfl _ _ w.heap.size 32 #[.int .i64 (n1 : Int), .int .u64 0, .int .i64 0, .int .i64 0, .int .i64 0, .int .i64 0, .int .i64 tb, .int .u32 (tg : Int), .int .u32 (ts : Int), .int .u64 (tx : Int), .slice none 0 0, .string ⟨#[]⟩, .bool false, .int .i64 0, .int .i64 0, .int .u32 (n3 : Int)] (0, 0) _ rfl (setRow_heap _ _ _ _ _ _ HRX.out) Try.underlying32 rfl HSZ.out) rfl ?_
  have hwb : Below w.heap.size w _ := (HLAST.out.2).below (Nat.le_refl _) (fun k hk => by omega)
  exact ⟨_, rfl, OpsFrom.nil _ _, hwb⟩
set_option maxRecDepth 100000 in
set_option maxHeartbeats 4000000 in
theorem read_c0 (a : Option Addr) (cap : Nat) (zs : List Int) (w : World) (h : Row w a zs.length zs) (hn : a = none → cap = 0) (hl : zs.length ≤ 1073741824) (P : Pos) (hP : P = ⟨zs, false⟩) (hk : (P.num 1 : Int) < 1 ∨ 13 < (P.num 1 : Int)) :
    Calls Try.prog 20 #[.slice a zs.length cap] w fun e w' => ReadIs P w e w' := by
  have b1 : Bytes P.zs := by rw [hP]; exact h.2.1
  have hr0 : ∀ t cs, Row (w.alloc (.cells cs t)) a zs.length zs := fun t cs => h.below ((Below.refl _ _).alloc (Nat.le_refl _) _)
  have hnew := fun t cs => new_any a zs.length cap zs _ (hr0 t cs) hn hl
  have HNEW := Lib.hid hnew
  have l1 := num1_lt b1
  have k1 := fun p D w => rdP_number p D P 1 (by omega) (by omega) w
  obtain ⟨n1, hn1⟩ : ∃ n, n = P.num 1 := ⟨_, rfl⟩
  obtain ⟨p1, hp1⟩ : ∃ x, x = P.skip 1 := ⟨_, rfl⟩
  have b2 : Bytes p1.zs := by rw [hp1]; exact skip_bytes b1 1
  rw [← hn1] at k1 l1 hk
  rw [← hp1] at k1
  have hpr := fun w => parts_0 _ hk w
  have hq : readRq P = ⟨(n1 : Int), 0, 0, zeroQuo, zeroTok, [], nothing, false, 0, 0, 0⟩ := by
    unfold readRq
    rw [← hn1, ← hp1, rdBody_c0 hk]
    skip
  unfold ReadIs
  rw [hq]
  have HPP := Lib.hid hP
  clear h hn hl hr0 hnew hk hP hq hn1 hp1 b1 b2
  simp only [rv, rcells, zeroQuo, zeroTok, nothing]
  go_enter Try.func20, Try.ntmps20
  go_wp2_with fail
  refine (HNEW.out _ _).mono ?_
  rintro e v1 ⟨p, rfl, hp, D, hrd, hb1, hD1, hD2⟩
  have hres := (Blk.new w 32 #[.int .i64 0, .int .u64 0, .int .i64 0, .int .i64 0, .int .i64 0, .int .i64 0, .int .i64 0, .int .u32 0, .int .u32 0, .int .u64 0, .slice none 0 0, .string ⟨#[]⟩, .bool false, .int .i64 0, .int .i64 0, .int .u32 0]).but (But.of_new hb1 (S := fun _ => False)) (fun e => e)
  have hbut1 : But (fun k => k = p) w v1 := ((But.refl (fun k => k = p) w).alloc (.cells #[.int .i64 0, .int .u64 0, .int .i64 0, .int .i64 0, .int .i64 0, .int .i64 0, .int .i64 0, .int .u32 0, .int .u32 0, .int .u64 0, .slice none 0 0, .string ⟨#[]⟩, .bool false, .int .i64 0, .int .i64 0, .int .u32 0] 32)).trans (But.of_new (S := fun _ => False) hb1) (fun _ _ e => e.elim)
  have hsz : w.heap.size < p ∧ w.heap.size < D := by simp at hp hD1; omega
  have HP := Lib.hid hsz
  have hrd1 : RdP p D v1 P := by rw [HPP.out]; exact hrd
  clear hrd hb1 hp hD1 HNEW
  go_wp2_with fail
  refine (k1 p D _ hrd1).mono ?_
  rintro e w1 ⟨rfl, hr, hb⟩
  have hres1 := hres.but hb (fun e => by omega)
  have hbut2 := hbut1.trans' hb
  have hD3 : D < w1.heap.size := by have := hr.lt; omega
  have hs1 := Rdg.begin hr hres1 hbut2 (Nat.le_refl _) (by omega) hD3 #[.int .i64 (n1 : Int), .int .u64 0, .int .i64 0, .int .i64 0, .int .i64 0, .int .i64 0, .int .i64 0, .int .u32 0, .int .u32 0, .int .u64 0, .slice none 0 0, .string ⟨#[]⟩, .bool false, .int .i64 0, .int .i64 0, .int .u32 0]
  have c0 : World.cell? _ ⟨w1.heap.size, 0, none⟩ = some (.int .i64 (n1 : Int)) := hs1.cell 0 rfl
  clear hr hb hres hres1 hbut1 hbut2 hrd1 k1
  go_wp2_with fail
  clear c0
  refine (hpr _).mono ?_
  rintro e w0 ⟨rfl, rfl⟩
  clear hpr
  have HBX := Lib.hid (show _ = _ from hs1.box)
  have HRX := Lib.hid (show _ = _ from hs1.res)
  have HLAST := Lib.hid (hs1.last #[.int .i64 (n1 : Int), .int .u64 0, .int .i64 0, .int .i64 0, .int .i64 0, .int .i64 0, .int .i64 0, .int .u32 0, .int .u32 0, .int .u64 0, .slice none 0 0, .string ⟨#[]⟩, .bool false, .int .i64 0, .int .i64 0, .int .u32 0])
  clear hs1
  have hone : (#[.int .i64 (n1 : Int), .int .u64 0, .int .i64 0, .int .i64 0, .int .i64 0, .int .i64 0, .int .i64 0, .int .u32 0, .int .u32 0, .int .u64 0, .slice none 0 0, .string ⟨#[]⟩, .bool false, .int .i64 0, .int .i64 0, .int .u32 0] : Array Value).all (fun x => x.oneCell') = true := by simp [Value.oneCell']
  have HONE := Lib.hid hone
  clear hone
  have HOLD := Lib.hid (show (#[.int .i64 0, .int .u64 0, .int .i64 0, .int .i64 0, .int .i64 0, .int .i64 0, .int .i64 0, .int .u32 0, .int .u32 0, .int .u64 0, .slice none 0 0, .string ⟨#[]⟩, .bool false, .int .i64 0, .int .i64 0, .int .u32 0] : Array Value).size = (#[.int .i64 (n1 : Int), .int .u64 0, .int .i64 0, .int .i64 0, .int .i64 0, .int .i64 0, .int .i64 0, .int .u32 0, .int .u32 0, .int .u64 0, .slice none 0 0, .string ⟨#[]⟩, .bool false, .int .i64 0, .int .i64 0, .int .u32 0] : Array Value).size by simp)
  have HSZ := Lib.hid (req_size.trans (show some 16 = some (#[.int .i64 (n1 : Int), .int .u64 0, .int .i64 0, .int .i64 0, .int .i64 0, .int .i64 0, .int .i64 0, .int .u32 0, .int .u32 0, .int .u64 0, .slice none 0 0, .string ⟨#[]⟩, .bool false, .int .i64 0, .int .i64 0, .int .u32 0] : Array Value).size by simp))
  go_wp2_with (first
    | (refine wpList_load_row rfl 32 _ rfl w1.heap.size rfl 32 _ (0, 0) _ HBX.out Try.underlying32 rfl HSZ.out ?_)
    | (refine wpList_store_rowTo rfl 32 _ _ rfl rfl w.heap.size #[.int .i64 (n1 : Int), .int .u64 0, .int .i64 0, .int .i64 0, .int .i64 0, .int .i64 0, .int .i64 0, .int .u32 0, .int .u32 0, .int .u64 0, .slice none 0 0, .string ⟨#[]⟩, .bool false, .int .i64 0, .int .i64 0, .int .u32 0] rfl rfl 32 #[.int .i64 0, .int .u64 0, .int .i64 0, .int .i64 0, .int .i64 0, .int .i64 0, .int .i64 0, .int .u32 0, .int .u32 0, .int .u64 0, .slice none 0 0, .string ⟨#[]⟩, .bool false, .int .i64 0, .int .i64 0, .int .u32 0] HRX.out HSZ.out HOLD.out HONE.out ?_))
  refine bodyPost_ret (results_cell_row rfl _ _ w.heap.size 32 #[.int .i64 (n1 : Int), .int .u64 0, .int .i64 0, .int .i64 0, .int .i64 0, .int .i64 0, .int .i64 0, .int .u32 0, .int .u32 0, .int .u64 0, .slice none 0 0, .string ⟨#[]⟩, .bool false, .int .i64 0, .int .i64 0, .int .u32 0] (0, 0) _ rfl (setRow_heap _ _ _ _ _ _ HRX.out) Try.underlying32 rfl HSZ.out) rfl ?_
  have hwb : Below w.heap.size w _ := (HLAST.out.2).below (Nat.le_refl _) (fun k hk => by omega)
  exact ⟨_, rfl, OpsFrom.nil _ _, hwb⟩
end Go.Proofs.Ytbdbbnpkekcefaa.Cmd

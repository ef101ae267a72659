/- What bytes are read as: the walks of command.read, a class of tags each. -/
import Derived.Test.YtbdbbnpkekcefaaGCmdReadA
namespace Go.Proofs.Ytbdbbnpkekcefaa.Cmd
open Go.Proofs.Ytbdbbnpkekcefaa.Mem Go.Proofs.Ytbdbbnpkekcefaa.Pack
open Go.ChangeShapes Go.WideShapes Go.ChangeAt Go.RowKit
set_option linter.unusedVariables false
set_option linter.unusedSimpArgs false

set_option maxRecDepth 100000 in
set_option maxHeartbeats 4000000 in
theorem read_c6 (a : Option Addr) (cap : Nat) (zs : List Int) (w : World) (h : Row w a zs.length zs) (hn : a = none → cap = 0) (hl : zs.length ≤ 1073741824) (P : Pos) (hP : P = ⟨zs, false⟩) (hk : 6 ≤ (P.num 1 : Int) ∧ (P.num 1 : Int) ≤ 9) :
    Calls Try.prog 20 #[.slice a zs.length cap] w fun e w' => ReadIs P w e w' := by
  have b1 : Bytes P.zs := by rw [hP]; exact h.2.1
  have hr0 : ∀ t cs, Row (w.alloc (.cells cs t)) a zs.length zs := fun t cs => h.below ((Below.refl _ _).alloc (Nat.le_refl _) _)
  have hnew := fun t cs => new_any a zs.length cap zs _ (hr0 t cs) hn hl
  have HNEW := Lib.hid hnew
  have l1 := num1_lt b1
  have k1 := fun p D w => rdP_number p D P 1 (by omega) (by omega) w
  obtain ⟨n1, hn1⟩ : ∃ n, n = P.num 1 := ⟨_, rfl⟩
  obtain ⟨p1, hp1⟩ : ∃ x, x = P.skip 1 := ⟨_, rfl⟩
  have b2 : Bytes p1.zs := by rw [hp1]; exact skip_bytes b1 1
  rw [← hn1] at k1 l1 hk
  rw [← hp1] at k1
  have hpr := fun w => parts_c6 hk w
  have k2 := fun p D w => nextToken_any p D p1 w
  obtain ⟨⟨tb, tg, ts, tx⟩, hn2⟩ : ∃ n, n = rdTok p1 := ⟨_, rfl⟩
  obtain ⟨p2, hp2⟩ : ∃ x, x = endTok p1 := ⟨_, rfl⟩
  have b3 : Bytes p2.zs := by rw [hp2]; exact endTok_bytes b2
  rw [← hn2, ← hp2] at k2
  simp only [tv] at k2
  have k3 := fun p D w => nextOps_any p D p2 (n1 : Int) w
  obtain ⟨l, hn3⟩ : ∃ n, n = opsRead (n1 : Int) p2 := ⟨_, rfl⟩
  rw [← hn3] at k3
  have hq : readRq P = ⟨(n1 : Int), 0, 0, zeroQuo, ⟨tb, tg, ts, tx⟩, l, nothing, false, 0, 0, 0⟩ := by
    unfold readRq
    rw [← hn1, ← hp1, rdBody_ops6 hk]
    rw [← hn2, ← hp2, ← hn3]
  unfold ReadIs
  rw [hq]
  have HPP := Lib.hid hP
  clear h hn hl hr0 hnew hk hP hq hn1 hp1 hn2 hp2 hn3 b1 b2 b3
  simp only [rv, rcells, zeroQuo, zeroTok, nothing]
  go_enter Try.func20, Try.ntmps20
  go_wp2_with fail
  refine (HNEW.out _ _).mono ?_
  rintro e v1 ⟨p, rfl, hp, D, hrd, hb1, hD1, hD2⟩
  have hres := (Blk.new w 32 #[.int .i64 0, .int .u64 0, .int .i64 0, .int .i64 0, .int .i64 0, .int .i64 0, .int .i64 0, .int .u32 0, .int .u32 0, .int .u64 0, .slice none 0 0, .string ⟨#[]⟩, .bool false, .int .i64 0, .int .i64 0, .int .u32 0]).but (But.of_new hb1 (S := fun _ => False)) (fun e => e)
  have hbut1 : But (fun k => k = p) w v1 := ((But.refl (fun k => k = p) w).alloc (.cells #[.int .i64 0, .int .u64 0, .int .i64 0, .int .i64 0, .int .i64 0, .int .i64 0, .int .i64 0, .int .u32 0, .int .u32 0, .int .u64 0, .slice none 0 0, .string ⟨#[]⟩, .bool false, .int .i64 0, .int .i64 0, .int .u32 0] 32)).trans (But.of_new (S := fun _ => False) hb1) (fun _ _ e => e.elim)
  have hsz : w.heap.size < p ∧ w.heap.size < D := by simp at hp hD1; omega
  have HP := Lib.hid hsz
  have hrd1 : RdP p D v1 P := by rw [HPP.out]; exact hrd
  clear hrd hb1 hp hD1 HNEW
  go_wp2_with fail
  refine (k1 p D _ hrd1).mono ?_
  rintro e w1 ⟨rfl, hr, hb⟩
  have hres1 := hres.but hb (fun e => by omega)
  have hbut2 := hbut1.trans' hb
  have hD3 : D < w1.heap.size := by have := hr.lt; omega
  have hs1 := Rdg.begin hr hres1 hbut2 (Nat.le_refl _) (by omega) hD3 #[.int .i64 (n1 : Int), .int .u64 0, .int .i64 0, .int .i64 0, .int .i64 0, .int .i64 0, .int .i64 0, .int .u32 0, .int .u32 0, .int .u64 0, .slice none 0 0, .string ⟨#[]⟩, .bool false, .int .i64 0, .int .i64 0, .int .u32 0]
  have c0 : World.cell? _ ⟨w1.heap.size, 0, none⟩ = some (.int .i64 (n1 : Int)) := hs1.cell 0 rfl
  clear hr hb hres hres1 hbut1 hbut2 hrd1 k1
  go_wp2_with fail
  clear c0
  refine (hpr _).mono ?_
  rintro e w0 ⟨rfl, rfl⟩
  clear hpr
  go_wp2_with fail
  refine (k2 p D _ hs1.rd (by have := hs1.box.lt; omega)).mono ?_
  rintro e w2 ⟨rfl, hr, hb⟩
  have hr2 := hs1.read hr hb
  clear hr hb hs1 k2
  have c6 : w2.cell? ⟨w1.heap.size, 6, none⟩ = some (.int .i64 0) := hr2.cell 6 rfl
  have f6 : w2.frozen? ⟨w1.heap.size, 6, none⟩ = false := hr2.frozen 6
  have c7 : w2.cell? ⟨w1.heap.size, 7, none⟩ = some (.int .u32 0) := hr2.cell 7 rfl
  have f7 : w2.frozen? ⟨w1.heap.size, 7, none⟩ = false := hr2.frozen 7
  have c8 : w2.cell? ⟨w1.heap.size, 8, none⟩ = some (.int .u32 0) := hr2.cell 8 rfl
  have f8 : w2.frozen? ⟨w1.heap.size, 8, none⟩ = false := hr2.frozen 8
  have c9 : w2.cell? ⟨w1.heap.size, 9, none⟩ = some (.int .u64 0) := hr2.cell 9 rfl
  have f9 : w2.frozen? ⟨w1.heap.size, 9, none⟩ = false := hr2.frozen 9
  have hq0 := hr2.set 6 (.int .i64 tb) (cs' := #[.int .i64 (n1 : Int), .int .u64 0, .int .i64 0, .int .i64 0, .int .i64 0, .int .i64 0, .int .i64 tb, .int .u32 0, .int .u32 0, .int .u64 0, .slice none 0 0, .string ⟨#[]⟩, .bool false, .int .i64 0, .int .i64 0, .int .u32 0]) rfl
  have hq1 := hq0.set 7 (.int .u32 (tg : Int)) (cs' := #[.int .i64 (n1 : Int), .int .u64 0, .int .i64 0, .int .i64 0, .int .i64 0, .int .i64 0, .int .i64 tb, .int .u32 (tg : Int), .int .u32 0, .int .u64 0, .slice none 0 0, .string ⟨#[]⟩, .bool false, .int .i64 0, .int .i64 0, .int .u32 0]) rfl
  have hq2 := hq1.set 8 (.int .u32 (ts : Int)) (cs' := #[.int .i64 (n1 : Int), .int .u64 0, .int .i64 0, .int .i64 0, .int .i64 0, .int .i64 0, .int .i64 tb, .int .u32 (tg : Int), .int .u32 (ts : Int), .int .u64 0, .slice none 0 0, .string ⟨#[]⟩, .bool false, .int .i64 0, .int .i64 0, .int .u32 0]) rfl
  have hq3 := hq2.set 9 (.int .u64 (tx : Int)) (cs' := #[.int .i64 (n1 : Int), .int .u64 0, .int .i64 0, .int .i64 0, .int .i64 0, .int .i64 0, .int .i64 tb, .int .u32 (tg : Int), .int .u32 (ts : Int), .int .u64 (tx : Int), .slice none 0 0, .string ⟨#[]⟩, .bool false, .int .i64 0, .int .i64 0, .int .u32 0]) rfl
  have hs2 := hq3
  clear hq0 hq1 hq2 hq3 hr2
  have c0 : World.cell? _ ⟨w1.heap.size, 0, none⟩ = some (.int .i64 (n1 : Int)) := hs2.cell 0 rfl
  go_wp2_with fail
  have hlo := And.intro hs2.box.lt hs2.lowB
  refine (k3 p D _ hs2.rd (by have := hs2.box.lt; omega)).mono ?_
  rintro e w3 ⟨sv, rfl, hof, hr, hb⟩
  obtain ⟨oa, oc, hsv, -⟩ := id hof
  subst hsv
  have hr3 := hs2.read hr hb
  clear hr hb hs2 k3 c0
  have c10 : w3.cell? ⟨w1.heap.size, 10, none⟩ = some (.slice none 0 0) := hr3.cell 10 rfl
  have f10 : w3.frozen? ⟨w1.heap.size, 10, none⟩ = false := hr3.frozen 10
  have hs3 := hr3.set 10 (.slice oa l.length oc) (cs' := #[.int .i64 (n1 : Int), .int .u64 0, .int .i64 0, .int .i64 0, .int .i64 0, .int .i64 0, .int .i64 tb, .int .u32 (tg : Int), .int .u32 (ts : Int), .int .u64 (tx : Int), .slice oa l.length oc, .string ⟨#[]⟩, .bool false, .int .i64 0, .int .i64 0, .int .u32 0]) rfl
  have HOF := Lib.hid (hof.but ((But.refl (fun k => k = w1.heap.size) w3).setCell (p := ⟨w1.heap.size, 10, none⟩) rfl (.slice oa l.length oc)) (fun k h1 _ e => by omega))
  have HLO := Lib.hid hlo
  clear hr3 hof hlo
  have HBX := Lib.hid (show _ = _ from hs3.box)
  have HRX := Lib.hid (show _ = _ from hs3.res)
  have HLAST := Lib.hid (hs3.last #[.int .i64 (n1 : Int), .int .u64 0, .int .i64 0, .int .i64 0, .int .i64 0, .int .i64 0, .int .i64 tb, .int .u32 (tg : Int), .int .u32 (ts : Int), .int .u64 (tx : Int), .slice oa l.length oc, .string ⟨#[]⟩, .bool false, .int .i64 0, .int .i64 0, .int .u32 0])
  clear hs3
  have hone : (#[.int .i64 (n1 : Int), .int .u64 0, .int .i64 0, .int .i64 0, .int .i64 0, .int .i64 0, .int .i64 tb, .int .u32 (tg : Int), .int .u32 (ts : Int), .int .u64 (tx : Int), .slice oa l.length oc, .string ⟨#[]⟩, .bool false, .int .i64 0, .int .i64 0, .int .u32 0] : Array Value).all (fun x => x.oneCell') = true := by simp [Value.oneCell']
  have HONE := Lib.hid hone
  clear hone
  have HOLD := Lib.hid (show (#[.int .i64 0, .int .u64 0, .int .i64 0, .int .i64 0, .int .i64 0, .int .i64 0, .int .i64 0, .int .u32 0, .int .u32 0, .int .u64 0, .slice none 0 0, .string ⟨#[]⟩, .bool false, .int .i64 0, .int .i64 0, .int .u32 0] : Array Value).size = (#[.int .i64 (n1 : Int), .int .u64 0, .int .i64 0, .int .i64 0, .int .i64 0, .int .i64 0, .int .i64 tb, .int .u32 (tg : Int), .int .u32 (ts : Int), .int .u64 (tx : Int), .slice oa l.length oc, .string ⟨#[]⟩, .bool false, .int .i64 0, .int .i64 0, .int .u32 0] : Array Value).size by simp)
  have HSZ := Lib.hid (req_size.trans (show some 16 = some (#[.int .i64 (n1 : Int), .int .u64 0, .int .i64 0, .int .i64 0, .int .i64 0, .int .i64 0, .int .i64 tb, .int .u32 (tg : Int), .int .u32 (ts : Int), .int .u64 (tx : Int), .slice oa l.length oc, .string ⟨#[]⟩, .bool false, .int .i64 0, .int .i64 0, .int .u32 0] : Array Value).size by simp))
  go_wp2_with (first
    | (refine wpList_load_row rfl 32 _ rfl w1.heap.size rfl 32 _ (0, 0) _ HBX.out Try.underlying32 rfl HSZ.out ?_)
    | (refine wpList_store_rowTo rfl 32 _ _ rfl rfl w.heap.size #[.int .i64 (n1 : Int), .int .u64 0, .int .i64 0, .int .i64 0, .int .i64 0, .int .i64 0, .int .i64 tb, .int .u32 (tg : Int), .int .u32 (ts : Int), .int .u64 (tx : Int), .slice oa l.length oc, .string ⟨#[]⟩, .bool false, .int .i64 0, .int .i64 0, .int .u32 0] rfl rfl 32 #[.int .i64 0, .int .u64 0, .int .i64 0, .int .i64 0, .int .i64 0, .int .i64 0, .int .i64 0, .int .u32 0, .int .u32 0, .int .u64 0, .slice none 0 0, .string ⟨#[]⟩, .bool false, .int .i64 0, .int .i64 0, .int .u32 0] HRX.out HSZ.out HOLD.out HONE.out ?_))
  refine bodyPost_ret (results_cell_row rfl _ _ w.heap.size 32 #[.int .i64 (n1 : Int), .int .u64 0, .int .i64 0, .int .i64 0, .int .i64 0, .int .i64 0, .int .i64 tb, .int .u32 (tg : Int), .int .u32 (ts : Int), .int .u64 (tx : Int), .slice oa l.length oc, .string ⟨#[]⟩, .bool false, .int .i64 0, .int .i64 0, .int .u32 0] (0, 0) _ rfl (setRow_heap _ _ _ _ _ _ HRX.out) Try.underlying32 rfl HSZ.out) rfl ?_
  have hwb : Below w.heap.size w _ := (HLAST.out.2).below (Nat.le_refl _) (fun k hk => by omega)
  exact ⟨_, rfl, (HOF.out.but (but_setRow (fun k => k = w.heap.size) (But.refl _ _) (.inl rfl) _) (fun k h1 _ e => by have := HLO.out; have := HP.out; omega)).mono (by have := HLO.out; omega), hwb⟩
set_option maxRecDepth 100000 in
set_option maxHeartbeats 4000000 in
theorem read_c10 (a : Option Addr) (cap : Nat) (zs : List Int) (w : World) (h : Row w a zs.length zs) (hn : a = none → cap = 0) (hl : zs.length ≤ 1073741824) (P : Pos) (hP : P = ⟨zs, false⟩) (hk : (P.num 1 : Int) = 10) :
    Calls Try.prog 20 #[.slice a zs.length cap] w fun e w' => ReadIs P w e w' := by
  have b1 : Bytes P.zs := by rw [hP]; exact h.2.1
  have hr0 : ∀ t cs, Row (w.alloc (.cells cs t)) a zs.length zs := fun t cs => h.below ((Below.refl _ _).alloc (Nat.le_refl _) _)
  have hnew := fun t cs => new_any a zs.length cap zs _ (hr0 t cs) hn hl
  have HNEW := Lib.hid hnew
  have l1 := num1_lt b1
  have k1 := fun p D w => rdP_number p D P 1 (by omega) (by omega) w
  obtain ⟨n1, hn1⟩ : ∃ n, n = P.num 1 := ⟨_, rfl⟩
  obtain ⟨p1, hp1⟩ : ∃ x, x = P.skip 1 := ⟨_, rfl⟩
  have b2 : Bytes p1.zs := by rw [hp1]; exact skip_bytes b1 1
  rw [← hn1] at k1 l1 hk
  rw [← hp1] at k1
  have hpr := fun w => parts_c10 hk w
  have k2 := fun p D w => nextToken_any p D p1 w
  obtain ⟨⟨tb, tg, ts, tx⟩, hn2⟩ : ∃ n, n = rdTok p1 := ⟨_, rfl⟩
  obtain ⟨p2, hp2⟩ : ∃ x, x = endTok p1 := ⟨_, rfl⟩
  have b3 : Bytes p2.zs := by rw [hp2]; exact endTok_bytes b2
  rw [← hn2, ← hp2] at k2
  simp only [tv] at k2
  have k3 := fun p D w => rdP_text p D p2 w
  obtain ⟨n3, hn3⟩ : ∃ n, n = p2.txt := ⟨_, rfl⟩
  obtain ⟨p3, hp3⟩ : ∃ x, x = p2.past := ⟨_, rfl⟩
  have b4 : Bytes p3.zs := by rw [hp3]; exact past_bytes b3
  rw [← hn3, ← hp3] at k3
  have k4 := fun p D w => nextFlag_any p D p3 w
  obtain ⟨n4, hn4⟩ : ∃ n, n = isDel p3 := ⟨_, rfl⟩
  obtain ⟨p4, hp4⟩ : ∃ x, x = p3.skip 1 := ⟨_, rfl⟩
  have b5 : Bytes p4.zs := by rw [hp4]; exact skip_bytes b4 1
  rw [← hn4, ← hp4] at k4
  have l5 := num1_lt b5
  have k5 := fun p D w => rdP_number p D p4 1 (by omega) (by omega) w
  obtain ⟨n5, hn5⟩ : ∃ n, n = p4.num 1 := ⟨_, rfl⟩
  obtain ⟨p5, hp5⟩ : ∃ x, x = p4.skip 1 := ⟨_, rfl⟩
  have b6 : Bytes p5.zs := by rw [hp5]; exact skip_bytes b5 1
  rw [← hn5] at k5 l5
  rw [← hp5] at k5
  have hq : readRq P = ⟨(n1 : Int), 0, 0, zeroQuo, ⟨tb, tg, ts, tx⟩, [], n3, n4, (n5 : Int), 0, 0⟩ := by
    unfold readRq
    rw [← hn1, ← hp1, rdBody_c10 hk]
    rw [← hn2, ← hp2, ← hn3, ← hp3, ← hn4, ← hp4, ← hn5]
  unfold ReadIs
  rw [hq]
  have HPP := Lib.hid hP
  clear h hn hl hr0 hnew hk hP hq hn1 hp1 hn2 hp2 hn3 hp3 hn4 hp4 hn5 hp5 b1 b2 b3 b4 b5 b6
  simp only [rv, rcells, zeroQuo, zeroTok, nothing]
  go_enter Try.func20, Try.ntmps20
  go_wp2_with fail
  refine (HNEW.out _ _).mono ?_
  rintro e v1 ⟨p, rfl, hp, D, hrd, hb1, hD1, hD2⟩
  have hres := (Blk.new w 32 #[.int .i64 0, .int .u64 0, .int .i64 0, .int .i64 0, .int .i64 0, .int .i64 0, .int .i64 0, .int .u32 0, .int .u32 0, .int .u64 0, .slice none 0 0, .string ⟨#[]⟩, .bool false, .int .i64 0, .int .i64 0, .int .u32 0]).but (But.of_new hb1 (S := fun _ => False)) (fun e => e)
  have hbut1 : But (fun k => k = p) w v1 := ((But.refl (fun k => k = p) w).alloc (.cells #[.int .i64 0, .int .u64 0, .int .i64 0, .int .i64 0, .int .i64 0, .int .i64 0, .int .i64 0, .int .u32 0, .int .u32 0, .int .u64 0, .slice none 0 0, .string ⟨#[]⟩, .bool false, .int .i64 0, .int .i64 0, .int .u32 0] 32)).trans (But.of_new (S := fun _ => False) hb1) (fun _ _ e => e.elim)
  have hsz : w.heap.size < p ∧ w.heap.size < D := by simp at hp hD1; omega
  have HP := Lib.hid hsz
  have hrd1 : RdP p D v1 P := by rw [HPP.out]; exact hrd
  clear hrd hb1 hp hD1 HNEW
  go_wp2_with fail
  refine (k1 p D _ hrd1).mono ?_
  rintro e w1 ⟨rfl, hr, hb⟩
  have hres1 := hres.but hb (fun e => by omega)
  have hbut2 := hbut1.trans' hb
  have hD3 : D < w1.heap.size := by have := hr.lt; omega
  have hs1 := Rdg.begin hr hres1 hbut2 (Nat.le_refl _) (by omega) hD3 #[.int .i64 (n1 : Int), .int .u64 0, .int .i64 0, .int .i64 0, .int .i64 0, .int .i64 0, .int .i64 0, .int .u32 0, .int .u32 0, .int .u64 0, .slice none 0 0, .string ⟨#[]⟩, .bool false, .int .i64 0, .int .i64 0, .int .u32 0]
  have c0 : World.cell? _ ⟨w1.heap.size, 0, none⟩ = some (.int .i64 (n1 : Int)) := hs1.cell 0 rfl
  clear hr hb hres hres1 hbut1 hbut2 hrd1 k1
  go_wp2_with fail
  clear c0
  refine (hpr _).mono ?_
  rintro e w0 ⟨rfl, rfl⟩
  clear hpr
  go_wp2_with fail
  refine (k2 p D _ hs1.rd (by have := hs1.box.lt; omega)).mono ?_
  rintro e w2 ⟨rfl, hr, hb⟩
  have hr2 := hs1.read hr hb
  clear hr hb hs1 k2
  have c6 : w2.cell? ⟨w1.heap.size, 6, none⟩ = some (.int .i64 0) := hr2.cell 6 rfl
  have f6 : w2.frozen? ⟨w1.heap.size, 6, none⟩ = false := hr2.frozen 6
  have c7 : w2.cell? ⟨w1.heap.size, 7, none⟩ = some (.int .u32 0) := hr2.cell 7 rfl
  have f7 : w2.frozen? ⟨w1.heap.size, 7, none⟩ = false := hr2.frozen 7
  have c8 : w2.cell? ⟨w1.heap.size, 8, none⟩ = some (.int .u32 0) := hr2.cell 8 rfl
  have f8 : w2.frozen? ⟨w1.heap.size, 8, none⟩ = false := hr2.frozen 8
  have c9 : w2.cell? ⟨w1.heap.size, 9, none⟩ = some (.int .u64 0) := hr2.cell 9 rfl
  have f9 : w2.frozen? ⟨w1.heap.size, 9, none⟩ = false := hr2.frozen 9
  have hq0 := hr2.set 6 (.int .i64 tb) (cs' := #[.int .i64 (n1 : Int), .int .u64 0, .int .i64 0, .int .i64 0, .int .i64 0, .int .i64 0, .int .i64 tb, .int .u32 0, .int .u32 0, .int .u64 0, .slice none 0 0, .string ⟨#[]⟩, .bool false, .int .i64 0, .int .i64 0, .int .u32 0]) rfl
  have hq1 := hq0.set 7 (.int .u32 (tg : Int)) (cs' := #[.int .i64 (n1 : Int), .int .u64 0, .int .i64 0, .int .i64 0, .int .i64 0, .int .i64 0, .int .i64 tb, .int .u32 (tg : Int), .int .u32 0, .int .u64 0, .slice none 0 0, .string ⟨#[]⟩, .bool false, .int .i64 0, .int .i64 0, .int .u32 0]) rfl
  have hq2 := hq1.set 8 (.int .u32 (ts : Int)) (cs' := #[.int .i64 (n1 : Int), .int .u64 0, .int .i64 0, .int .i64 0, .int .i64 0, .int .i64 0, .int .i64 tb, .int .u32 (tg : Int), .int .u32 (ts : Int), .int .u64 0, .slice none 0 0, .string ⟨#[]⟩, .bool false, .int .i64 0, .int .i64 0, .int .u32 0]) rfl
  have hq3 := hq2.set 9 (.int .u64 (tx : Int)) (cs' := #[.int .i64 (n1 : Int), .int .u64 0, .int .i64 0, .int .i64 0, .int .i64 0, .int .i64 0, .int .i64 tb, .int .u32 (tg : Int), .int .u32 (ts : Int), .int .u64 (tx : Int), .slice none 0 0, .string ⟨#[]⟩, .bool false, .int .i64 0, .int .i64 0, .int .u32 0]) rfl
  have hs2 := hq3
  clear hq0 hq1 hq2 hq3 hr2
  go_wp2_with fail
  refine (k3 p D _ hs2.rd).mono ?_
  rintro e w3 ⟨rfl, hr, hb⟩
  have hr3 := hs2.read hr hb
  clear hr hb hs2 k3
  have c11 : w3.cell? ⟨w1.heap.size, 11, none⟩ = some (.string ⟨#[]⟩) := hr3.cell 11 rfl
  have f11 : w3.frozen? ⟨w1.heap.size, 11, none⟩ = false := hr3.frozen 11
  have hs3 := hr3.set 11 (.string n3) (cs' := #[.int .i64 (n1 : Int), .int .u64 0, .int .i64 0, .int .i64 0, .int .i64 0, .int .i64 0, .int .i64 tb, .int .u32 (tg : Int), .int .u32 (ts : Int), .int .u64 (tx : Int), .slice none 0 0, .string n3, .bool false, .int .i64 0, .int .i64 0, .int .u32 0]) rfl
  clear hr3
  go_wp2_with fail
  refine (k4 p D _ hs3.rd).mono ?_
  rintro e w4 ⟨rfl, hr, hb⟩
  have hr4 := hs3.read hr hb
  clear hr hb hs3 k4
  have c12 : w4.cell? ⟨w1.heap.size, 12, none⟩ = some (.bool false) := hr4.cell 12 rfl
  have f12 : w4.frozen? ⟨w1.heap.size, 12, none⟩ = false := hr4.frozen 12
  have hs4 := hr4.set 12 (.bool n4) (cs' := #[.int .i64 (n1 : Int), .int .u64 0, .int .i64 0, .int .i64 0, .int .i64 0, .int .i64 0, .int .i64 tb, .int .u32 (tg : Int), .int .u32 (ts : Int), .int .u64 (tx : Int), .slice none 0 0, .string n3, .bool n4, .int .i64 0, .int .i64 0, .int .u32 0]) rfl
  clear hr4
  go_wp2_with fail
  refine (k5 p D _ hs4.rd).mono ?_
  rintro e w5 ⟨rfl, hr, hb⟩
  have hr5 := hs4.read hr hb
  clear hr hb hs4 k5
  have c13 : w5.cell? ⟨w1.heap.size, 13, none⟩ = some (.int .i64 0) := hr5.cell 13 rfl
  have f13 : w5.frozen? ⟨w1.heap.size, 13, none⟩ = false := hr5.frozen 13
  have hs5 := hr5.set 13 (.int .i64 (n5 : Int)) (cs' := #[.int .i64 (n1 : Int), .int .u64 0, .int .i64 0, .int .i64 0, .int .i64 0, .int .i64 0, .int .i64 tb, .int .u32 (tg : Int), .int .u32 (ts : Int), .int .u64 (tx : Int), .slice none 0 0, .string n3, .bool n4, .int .i64 (n5 : Int), .int .i64 0, .int .u32 0]) rfl
  clear hr5
  have HBX := Lib.hid (show _ = _ from hs5.box)
  have HRX := Lib.hid (show _ = _ from hs5.res)
  have HLAST := Lib.hid (hs5.last #[.int .i64 (n1 : Int), .int .u64 0, .int .i64 0, .int .i64 0, .int .i64 0, .int .i64 0, .int .i64 tb, .int .u32 (tg : Int), .int .u32 (ts : Int), .int .u64 (tx : Int), .slice none 0 0, .string n3, .bool n4, .int .i64 (n5 : Int), .int .i64 0, .int .u32 0])
  clear hs5
  have hone : (#[.int .i64 (n1 : Int), .int .u64 0, .int .i64 0, .int .i64 0, .int .i64 0, .int .i64 0, .int .i64 tb, .int .u32 (tg : Int), .int .u32 (ts : Int), .int .u64 (tx : Int), .slice none 0 0, .string n3, .bool n4, .int .i64 (n5 : Int), .int .i64 0, .int .u32 0] : Array Value).all (fun x => x.oneCell') = true := by simp [Value.oneCell']
  have HONE := Lib.hid hone
  clear hone
  have HOLD := Lib.hid (show (#[.int .i64 0, .int .u64 0, .int .i64 0, .int .i64 0, .int .i64 0, .int .i64 0, .int .i64 0, .int .u32 0, .int .u32 0, .int .u64 0, .slice none 0 0, .string ⟨#[]⟩, .bool false, .int .i64 0, .int .i64 0, .int .u32 0] : Array Value).size = (#[.int .i64 (n1 : Int), .int .u64 0, .int .i64 0, .int .i64 0, .int .i64 0, .int .i64 0, .int .i64 tb, .int .u32 (tg : Int), .int .u32 (ts : Int), .int .u64 (tx : Int), .slice none 0 0, .string n3, .bool n4, .int .i64 (n5 : Int), .int .i64 0, .int .u32 0] : Array Value).size by simp)
  have HSZ := Lib.hid (req_size.trans (show some 16 = some (#[.int .i64 (n1 : Int), .int .u64 0, .int .i64 0, .int .i64 0, .int .i64 0, .int .i64 0, .int .i64 tb, .int .u32 (tg : Int), .int .u32 (ts : Int), .int .u64 (tx : Int), .slice none 0 0, .string n3, .bool n4, .int .i64 (n5 : Int), .int .i64 0, .int .u32 0] : Array Value).size by simp))
  go_wp2_with (first
    | (refine wpList_load_row rfl 32 _ rfl w1.heap.size rfl 32 _ (0, 0) _ HBX.out Try.underlying32 rfl HSZ.out ?_)
    | (refine wpList_store_rowTo rfl 32 _ _ rfl rfl w.heap.size #[.int .i64 (n1 : Int), .int .u64 0, .int .i64 0, .int .i64 0, .int .i64 0, .int .i64 0, .int .i64 tb, .int .u32 (tg : Int), .int .u32 (ts : Int), .int .u64 (tx : Int), .slice none 0 0, .string n3, .bool n4, .int .i64 (n5 : Int), .int .i64 0, .int .u32 0] rfl rfl 32 #[.int .i64 0, .int .u64 0, .int .i64 0, .int .i64 0, .int .i64 0, .int .i64 0, .int .i64 0, .int .u32 0, .int .u32 0, .int .u64 0, .slice none 0 0, .string ⟨#[]⟩, .bool false, .int .i64 0, .int .i64 0, .int .u32 0] HRX.out HSZ.out HOLD.out HONE.out ?_))
  refine bodyPost_ret (results_cell_row rfl _ _ w.heap.size 32 #[.int .i64 (n1 : Int), .int .u64 0, .int .i64 0, .int .i64 0, .int .i64 0, .int .i64 0, .int .i64 tb, .int .u32 (tg : Int), .int .u32 (ts : Int), .int .u64 (tx : Int), .slice none 0 0, .string n3, .bool n4, .int .i64 (n5 : Int), .int .i64 0, .int .u32 0] (0, 0) _ rfl (setRow_heap _ _ _ _ _ _ HRX.out) Try.underlying32 rfl HSZ.out) rfl ?_
  have hwb : Below w.heap.size w _ := (HLAST.out.2).below (Nat.le_refl _) (fun k hk => by omega)
  exact ⟨_, rfl, OpsFrom.nil _ _, hwb⟩
end Go.Proofs.Ytbdbbnpkekcefaa.Cmd

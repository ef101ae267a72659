/- What the document's Parse answers, a class of tags each. -/
import Derived.Test.YtbdbbnpkekcefaaCmdRKit
namespace Go.Proofs.Ytbdbbnpkekcefaa.Cmd
open Go.Proofs.Ytbdbbnpkekcefaa.Mem Go.Proofs.Ytbdbbnpkekcefaa.Pack
open Go.ChangeShapes Go.WideShapes Go.ChangeAt Go.RowKit
set_option linter.unusedVariables false
set_option linter.unusedSimpArgs false

set_option maxRecDepth 100000 in
set_option maxHeartbeats 8000000 in
theorem rparse_c6a (a : Option Addr) (cap : Nat) (zs : List Int) (w : World) (h : Row w a zs.length zs) (hn : a = none → cap = 0) (hlc : zs.length ≤ cap) (hcm : cap ≤ maxLen) (hl : zs.length ≤ 1073741824) (P : Pos) (hP : P = ⟨zs, false⟩) (hk : (P.num 1 : Int) = 6) :
    Calls Try.prog 8 #[.slice a zs.length cap] w fun e w' => RParseIs zs w e w' := by
  have b1 : Bytes P.zs := by rw [hP]; exact h.2.1
  have hs0 := rparse_start w a cap zs h hn hlc hcm hl
  rw [← hP] at hs0
  have l1 := num1_lt b1
  have k1 := fun w' => rfP_number (w.heap.size + 1) w.heap.size P 1 (by omega) (by omega) w'
  have hgd : good zs = (!bad P && (!(endRq P).short && decide ((endRq P).zs = []))) := by rw [hP]; rfl
  rw [hk] at k1
  obtain ⟨p1, hp1⟩ : ∃ x, x = P.skip 1 := ⟨_, rfl⟩
  have b2 : Bytes p1.zs := by rw [hp1]; exact skip_bytes b1 1
  rw [← hp1] at k1
  have k2 := fun u => ptok_any (w.heap.size + 2) (w.heap.size + 1) w.heap.size p1 false u
  obtain ⟨⟨tb, tg, ts, tx⟩, hn2⟩ : ∃ n, n = rdTok p1 := ⟨_, rfl⟩
  obtain ⟨p2, hp2⟩ : ∃ x, x = endTok p1 := ⟨_, rfl⟩
  have b3 : Bytes p2.zs := by rw [hp2]; exact endTok_bytes b2
  rw [← hn2, ← hp2] at k2
  simp only [tv] at k2
  have k3 := fun u => pop_any (w.heap.size + 2) (w.heap.size + 1) w.heap.size p2 false 6 (by omega) u
  obtain ⟨o, hn3⟩ : ∃ n, n = rdOp 6 (decide ((6 : Int) = 8)) p2 := ⟨_, rfl⟩
  obtain ⟨p3, hp3⟩ : ∃ x, x = endOp 6 (decide ((6 : Int) = 8)) p2 := ⟨_, rfl⟩
  obtain ⟨bo, hbo⟩ : ∃ x, x = badOp 6 (decide ((6 : Int) = 8)) p2 := ⟨_, rfl⟩
  rw [← hn3, ← hp3, ← hbo, Bool.false_or] at k3
  unfold ov at k3
  have hkc : 6 ≤ (P.num 1 : Int) ∧ (P.num 1 : Int) ≤ 8 := by omega
  have hbad : bad P = bo := by
    unfold bad
    rw [← hp1, badBody_c6 hkc]
    all_goals try rw [hk]
    all_goals try simp only [← hn2, ← hp2, ← hn3, ← hp3, ← hbo]
  have hend : endRq P = p3 := by
    unfold endRq
    rw [← hp1, endBody_c6 hkc]
    all_goals try rw [hk]
    all_goals try simp only [← hp2, ← hp3]
  have hq : readRq P = ⟨6, 0, 0, zeroQuo, ⟨tb, tg, ts, tx⟩, [o], nothing, false, 0, 0, 0⟩ := by
    unfold readRq
    rw [← hp1, rdBody_c6 hkc, hk]
    all_goals try simp only [← hn2, ← hp2, ← hn3, ← hp3]
  rw [hend] at hgd
  unfold RParseIs
  rw [← hP, hq]
  have HG := Lib.hid hgd
  have HBAD := Lib.hid hbad
  clear h hn hlc hcm hl hP hq hkc hgd hbad hend hp1 hn2 hp2 hn3 hp3 hbo 
  skip
  simp only [rv, rcells, zeroQuo, zeroTok, nothing, zeroRq]
  unfold rzero at hs0
  go_enter Try.func8, Try.ntmps8
  have q0 := hs0.pp.c0
  go_wp2_with fail
  clear q0
  refine (k1 _ hs0.pp.rd).mono ?_
  rintro e w1 ⟨rfl, hr, hb⟩
  have hr1 := hs0.read hr hb b2
  clear hr hb hs0 k1
  have cA : w1.cell? ⟨(w.heap.size + 3), 0, none⟩ = some (.int .i64 0) := hr1.cell 0 rfl
  have fA : w1.frozen? ⟨(w.heap.size + 3), 0, none⟩ = false := hr1.frozen 0
  have hs1 := hr1.set 0 (.int .i64 6) (cs' := #[.int .i64 6, .int .u64 0, .int .i64 0, .int .i64 0, .int .i64 0, .int .i64 0, .int .i64 0, .int .u32 0, .int .u32 0, .int .u64 0, .slice none 0 0, .string ⟨#[]⟩, .bool false, .int .i64 0, .int .i64 0, .int .u32 0]) rfl
  clear hr1
  have c0 : World.cell? _ ⟨(w.heap.size + 3), 0, none⟩ = some (.int .i64 6) := hs1.cell 0 rfl
  go_wp2_with fail
  refine (k2 _ hs1.pp).mono ?_
  rintro e w2 ⟨rfl, hp, hb⟩
  have hr2 := hs1.call hp hb
  clear hp hb hs1 k2 c0
  have c6 : w2.cell? ⟨(w.heap.size + 3), 6, none⟩ = some (.int .i64 0) := hr2.cell 6 rfl
  have f6 : w2.frozen? ⟨(w.heap.size + 3), 6, none⟩ = false := hr2.frozen 6
  have c7 : w2.cell? ⟨(w.heap.size + 3), 7, none⟩ = some (.int .u32 0) := hr2.cell 7 rfl
  have f7 : w2.frozen? ⟨(w.heap.size + 3), 7, none⟩ = false := hr2.frozen 7
  have c8 : w2.cell? ⟨(w.heap.size + 3), 8, none⟩ = some (.int .u32 0) := hr2.cell 8 rfl
  have f8 : w2.frozen? ⟨(w.heap.size + 3), 8, none⟩ = false := hr2.frozen 8
  have c9 : w2.cell? ⟨(w.heap.size + 3), 9, none⟩ = some (.int .u64 0) := hr2.cell 9 rfl
  have f9 : w2.frozen? ⟨(w.heap.size + 3), 9, none⟩ = false := hr2.frozen 9
  have hq0 := hr2.set 6 (.int .i64 tb) (cs' := #[.int .i64 6, .int .u64 0, .int .i64 0, .int .i64 0, .int .i64 0, .int .i64 0, .int .i64 tb, .int .u32 0, .int .u32 0, .int .u64 0, .slice none 0 0, .string ⟨#[]⟩, .bool false, .int .i64 0, .int .i64 0, .int .u32 0]) rfl
  have hq1 := hq0.set 7 (.int .u32 (tg : Int)) (cs' := #[.int .i64 6, .int .u64 0, .int .i64 0, .int .i64 0, .int .i64 0, .int .i64 0, .int .i64 tb, .int .u32 (tg : Int), .int .u32 0, .int .u64 0, .slice none 0 0, .string ⟨#[]⟩, .bool false, .int .i64 0, .int .i64 0, .int .u32 0]) rfl
  have hq2 := hq1.set 8 (.int .u32 (ts : Int)) (cs' := #[.int .i64 6, .int .u64 0, .int .i64 0, .int .i64 0, .int .i64 0, .int .i64 0, .int .i64 tb, .int .u32 (tg : Int), .int .u32 (ts : Int), .int .u64 0, .slice none 0 0, .string ⟨#[]⟩, .bool false, .int .i64 0, .int .i64 0, .int .u32 0]) rfl
  have hq3 := hq2.set 9 (.int .u64 (tx : Int)) (cs' := #[.int .i64 6, .int .u64 0, .int .i64 0, .int .i64 0, .int .i64 0, .int .i64 0, .int .i64 tb, .int .u32 (tg : Int), .int .u32 (ts : Int), .int .u64 (tx : Int), .slice none 0 0, .string ⟨#[]⟩, .bool false, .int .i64 0, .int .i64 0, .int .u32 0]) rfl
  have hs2 := hq3
  clear hq0 hq1 hq2 hq3 hr2
  try clear c0
  have c0 : World.cell? _ ⟨(w.heap.size + 3), 0, none⟩ = some (.int .i64 6) := hs2.cell 0 rfl
  go_wp2_with fail
  refine (k3 _ hs2.pp).mono ?_
  rintro e w3 ⟨rfl, hp, hb⟩
  have hr3 := hs2.call hp hb
  clear hp hb hs2 k3 c0
  have hlo := hr3.box.lt
  have hW := hr3.new (But.alloc (But.alloc (But.refl (fun _ => False) w3) (.cells #[.bool o.del, .string o.key, .string o.val, .int .u64 (o.cond : Int), .int .u64 (o.ttl : Int)] 83)) (.cells #[.bool o.del, .string o.key, .string o.val, .int .u64 (o.cond : Int), .int .u64 (o.ttl : Int)] 83))
  have c10 : World.cell? _ ⟨(w.heap.size + 3), 10, none⟩ = some (.slice none 0 0) := hW.cell 10 rfl
  have f10 : World.frozen? _ ⟨(w.heap.size + 3), 10, none⟩ = false := hW.frozen 10
  have hs3 := hW.set 10 (.slice (some ⟨w3.heap.size + 1, 0, none⟩) 1 1) (cs' := #[.int .i64 6, .int .u64 0, .int .i64 0, .int .i64 0, .int .i64 0, .int .i64 0, .int .i64 tb, .int .u32 (tg : Int), .int .u32 (ts : Int), .int .u64 (tx : Int), .slice (some ⟨w3.heap.size + 1, 0, none⟩) 1 1, .string ⟨#[]⟩, .bool false, .int .i64 0, .int .i64 0, .int .u32 0]) rfl
  have HOF := Lib.hid ((opsFrom_two w3 o 83).but ((But.refl (fun k => k = (w.heap.size + 3)) _).setCell (p := ⟨(w.heap.size + 3), 10, none⟩) rfl (.slice (some ⟨w3.heap.size + 1, 0, none⟩) 1 1)) (fun k h1 _ e => by omega))
  have HLO := Lib.hid hlo
  clear hr3 hW hlo
  cases bo
  rotate_left
  · have c0 : World.cell? _ ⟨(w.heap.size + 3), 0, none⟩ = some (.int .i64 6) := hs3.cell 0 rfl
    have q0 := hs3.pp.c0
    have q1 := hs3.pp.c1
    have HNB := Lib.hid (hs3.res)
    have hone : (rzero : Array Value).all (fun x => x.oneCell') = true := by simp [rzero, Value.oneCell']
    have HONE := Lib.hid hone
    have HSZ := Lib.hid (ref_size.trans (show some 16 = some rzero.size from rfl))
    have HLAST := Lib.hid (hs3.last rzero)
    clear hone hs3
    unfold rzero at HNB HONE HSZ HLAST
    go_wp2_with (refine wpList_store_rowTo rfl 39 _ _ rfl rfl w.heap.size #[.int .i64 0, .int .u64 0, .int .i64 0, .int .i64 0, .int .i64 0, .int .i64 0, .int .i64 0, .int .u32 0, .int .u32 0, .int .u64 0, .slice none 0 0, .string ⟨#[]⟩, .bool false, .int .i64 0, .int .i64 0, .int .u32 0] rfl rfl 39 #[.int .i64 0, .int .u64 0, .int .i64 0, .int .i64 0, .int .i64 0, .int .i64 0, .int .i64 0, .int .u32 0, .int .u32 0, .int .u64 0, .slice none 0 0, .string ⟨#[]⟩, .bool false, .int .i64 0, .int .i64 0, .int .u32 0] HNB.out HSZ.out rfl HONE.out ?_)
    refine bodyPost_ret (results_row_tmp rfl _ _ w.heap.size 39 #[.int .i64 0, .int .u64 0, .int .i64 0, .int .i64 0, .int .i64 0, .int .i64 0, .int .i64 0, .int .u32 0, .int .u32 0, .int .u64 0, .slice none 0 0, .string ⟨#[]⟩, .bool false, .int .i64 0, .int .i64 0, .int .u32 0] (0, 0) _ rfl (setRow_heap _ _ _ _ _ _ HNB.out) Try.underlying39 rfl HSZ.out) rfl ?_
    exact ⟨(HLAST.out.2).below (Nat.le_refl _) (fun k hk => by rcases hk with e | e <;> omega), .inr ⟨by rw [HG.out, HBAD.out]; first | rfl | simp, rfl⟩⟩
  have c0 : World.cell? _ ⟨(w.heap.size + 3), 0, none⟩ = some (.int .i64 6) := hs3.cell 0 rfl
  have q0 := hs3.pp.c0
  have q1 := hs3.pp.c1
  have q2 := Rf.short hs3.pp.rd
  obtain ⟨sh, hsh⟩ : ∃ s, s = p3.short := ⟨_, rfl⟩
  rw [← hsh] at q2
  have HSH := Lib.hid hsh
  have kleft := refLeft_any (w.heap.size + 1) p3.zs p3.short _ hs3.pp.rd
  have HKL := Lib.hid kleft
  clear hsh kleft
  cases sh
  rotate_left
  · have HNB := Lib.hid (hs3.res)
    have hone : (rzero : Array Value).all (fun x => x.oneCell') = true := by simp [rzero, Value.oneCell']
    have HONE := Lib.hid hone
    have HSZ := Lib.hid (ref_size.trans (show some 16 = some rzero.size from rfl))
    have HLAST := Lib.hid (hs3.last rzero)
    clear hone hs3 HKL
    unfold rzero at HNB HONE HSZ HLAST
    go_wp2_with (refine wpList_store_rowTo rfl 39 _ _ rfl rfl w.heap.size #[.int .i64 0, .int .u64 0, .int .i64 0, .int .i64 0, .int .i64 0, .int .i64 0, .int .i64 0, .int .u32 0, .int .u32 0, .int .u64 0, .slice none 0 0, .string ⟨#[]⟩, .bool false, .int .i64 0, .int .i64 0, .int .u32 0] rfl rfl 39 #[.int .i64 0, .int .u64 0, .int .i64 0, .int .i64 0, .int .i64 0, .int .i64 0, .int .i64 0, .int .u32 0, .int .u32 0, .int .u64 0, .slice none 0 0, .string ⟨#[]⟩, .bool false, .int .i64 0, .int .i64 0, .int .u32 0] HNB.out HSZ.out rfl HONE.out ?_)
    refine bodyPost_ret (results_row_tmp rfl _ _ w.heap.size 39 #[.int .i64 0, .int .u64 0, .int .i64 0, .int .i64 0, .int .i64 0, .int .i64 0, .int .i64 0, .int .u32 0, .int .u32 0, .int .u64 0, .slice none 0 0, .string ⟨#[]⟩, .bool false, .int .i64 0, .int .i64 0, .int .u32 0] (0, 0) _ rfl (setRow_heap _ _ _ _ _ _ HNB.out) Try.underlying39 rfl HSZ.out) rfl ?_
    exact ⟨(HLAST.out.2).below (Nat.le_refl _) (fun k hk => by rcases hk with e | e <;> omega), .inr ⟨by rw [HG.out, HBAD.out, ← HSH.out]; simp, rfl⟩⟩
  go_wp2_with fail
  refine HKL.out.mono ?_
  rintro e wL ⟨rfl, nL, rfl⟩
  have hsL := hs3.new (But.drewN (But.refl (fun _ => False) _) nL)
  clear hs3 HKL q0 q1 q2
  by_cases hz : p3.zs.length = 0
  rotate_left
  · have hz1 : decide ((0 : Int) < (p3.zs.length : Int)) = true := decide_eq_true (by omega)
    have hpos : 0 < p3.zs.length := by omega
    have hposI : (0 : Int) < (p3.zs.length : Int) := by omega
    have HZN := Lib.hid (show decide (p3.zs = []) = false from decide_eq_false (fun e => hz (by rw [e]; rfl)))
    clear hz
    have HNB := Lib.hid (hsL.res)
    have hone : (rzero : Array Value).all (fun x => x.oneCell') = true := by simp [rzero, Value.oneCell']
    have HONE := Lib.hid hone
    have HSZ := Lib.hid (ref_size.trans (show some 16 = some rzero.size from rfl))
    have HLAST := Lib.hid (hsL.last rzero)
    clear hone hsL
    unfold rzero at HNB HONE HSZ HLAST
    go_wp2_with (refine wpList_store_rowTo rfl 39 _ _ rfl rfl w.heap.size #[.int .i64 0, .int .u64 0, .int .i64 0, .int .i64 0, .int .i64 0, .int .i64 0, .int .i64 0, .int .u32 0, .int .u32 0, .int .u64 0, .slice none 0 0, .string ⟨#[]⟩, .bool false, .int .i64 0, .int .i64 0, .int .u32 0] rfl rfl 39 #[.int .i64 0, .int .u64 0, .int .i64 0, .int .i64 0, .int .i64 0, .int .i64 0, .int .i64 0, .int .u32 0, .int .u32 0, .int .u64 0, .slice none 0 0, .string ⟨#[]⟩, .bool false, .int .i64 0, .int .i64 0, .int .u32 0] HNB.out HSZ.out rfl HONE.out ?_)
    refine bodyPost_ret (results_row_tmp rfl _ _ w.heap.size 39 #[.int .i64 0, .int .u64 0, .int .i64 0, .int .i64 0, .int .i64 0, .int .i64 0, .int .i64 0, .int .u32 0, .int .u32 0, .int .u64 0, .slice none 0 0, .string ⟨#[]⟩, .bool false, .int .i64 0, .int .i64 0, .int .u32 0] (0, 0) _ rfl (setRow_heap _ _ _ _ _ _ HNB.out) Try.underlying39 rfl HSZ.out) rfl ?_
    exact ⟨(HLAST.out.2).below (Nat.le_refl _) (fun k hk => by rcases hk with e | e <;> omega), .inr ⟨by rw [HG.out, HBAD.out, HZN.out]; simp, rfl⟩⟩
  have hz1 : decide ((0 : Int) < (p3.zs.length : Int)) = false := decide_eq_false (by omega)
  have HZN := Lib.hid (show decide (p3.zs = []) = true from decide_eq_true (List.eq_nil_of_length_eq_zero hz))
  rw [hz]
  clear hz hz1
  have HBX := Lib.hid (show _ = _ from hsL.box)
  have HRX := Lib.hid (show _ = _ from hsL.res)
  have HLAST := Lib.hid (hsL.last #[.int .i64 6, .int .u64 0, .int .i64 0, .int .i64 0, .int .i64 0, .int .i64 0, .int .i64 tb, .int .u32 (tg : Int), .int .u32 (ts : Int), .int .u64 (tx : Int), .slice (some ⟨w3.heap.size + 1, 0, none⟩) 1 1, .string ⟨#[]⟩, .bool false, .int .i64 0, .int .i64 0, .int .u32 0])
  have HOF2 := Lib.hid (HOF.out.new (But.drewN (But.refl (fun _ => False) _) nL))
  clear hsL
  have hone : (#[.int .i64 6, .int .u64 0, .int .i64 0, .int .i64 0, .int .i64 0, .int .i64 0, .int .i64 tb, .int .u32 (tg : Int), .int .u32 (ts : Int), .int .u64 (tx : Int), .slice (some ⟨w3.heap.size + 1, 0, none⟩) 1 1, .string ⟨#[]⟩, .bool false, .int .i64 0, .int .i64 0, .int .u32 0] : Array Value).all (fun x => x.oneCell') = true := by simp [Value.oneCell']
  have HONE := Lib.hid hone
  clear hone
  have HOLD := Lib.hid (show (rzero : Array Value).size = (#[.int .i64 6, .int .u64 0, .int .i64 0, .int .i64 0, .int .i64 0, .int .i64 0, .int .i64 tb, .int .u32 (tg : Int), .int .u32 (ts : Int), .int .u64 (tx : Int), .slice (some ⟨w3.heap.size + 1, 0, none⟩) 1 1, .string ⟨#[]⟩, .bool false, .int .i64 0, .int .i64 0, .int .u32 0] : Array Value).size by simp [rzero])
  have HSZ := Lib.hid (ref_size.trans (show some 16 = some (#[.int .i64 6, .int .u64 0, .int .i64 0, .int .i64 0, .int .i64 0, .int .i64 0, .int .i64 tb, .int .u32 (tg : Int), .int .u32 (ts : Int), .int .u64 (tx : Int), .slice (some ⟨w3.heap.size + 1, 0, none⟩) 1 1, .string ⟨#[]⟩, .bool false, .int .i64 0, .int .i64 0, .int .u32 0] : Array Value).size by simp))
  go_wp2_with (first
    | (refine wpList_load_row rfl 39 _ rfl (w.heap.size + 3) rfl 39 _ (0, 0) _ HBX.out Try.underlying39 rfl HSZ.out ?_)
    | (refine wpList_store_rowTo rfl 39 _ _ rfl rfl w.heap.size #[.int .i64 6, .int .u64 0, .int .i64 0, .int .i64 0, .int .i64 0, .int .i64 0, .int .i64 tb, .int .u32 (tg : Int), .int .u32 (ts : Int), .int .u64 (tx : Int), .slice (some ⟨w3.heap.size + 1, 0, none⟩) 1 1, .string ⟨#[]⟩, .bool false, .int .i64 0, .int .i64 0, .int .u32 0] rfl rfl 39 rzero HRX.out HSZ.out HOLD.out HONE.out ?_))
  refine bodyPost_ret (results_row_tmp rfl _ _ w.heap.size 39 #[.int .i64 6, .int .u64 0, .int .i64 0, .int .i64 0, .int .i64 0, .int .i64 0, .int .i64 tb, .int .u32 (tg : Int), .int .u32 (ts : Int), .int .u64 (tx : Int), .slice (some ⟨w3.heap.size + 1, 0, none⟩) 1 1, .string ⟨#[]⟩, .bool false, .int .i64 0, .int .i64 0, .int .u32 0] (0, 0) _ rfl (setRow_heap _ _ _ _ _ _ HRX.out) Try.underlying39 rfl HSZ.out) rfl ?_
  have hwb : Below w.heap.size w _ := (HLAST.out.2).below (Nat.le_refl _) (fun k hk => by rcases hk with e | e <;> omega)
  exact ⟨hwb, .inl ⟨by rw [HG.out, HBAD.out, ← HSH.out, HZN.out]; rfl, _, rfl, (HOF2.out.but (but_setRow (fun k => k = w.heap.size) (But.refl _ _) (.inl rfl) _) (fun k h1 _ e => by have := HLO.out; omega)).at_⟩⟩
set_option maxRecDepth 100000 in
set_option maxHeartbeats 8000000 in
theorem rparse_c6b (a : Option Addr) (cap : Nat) (zs : List Int) (w : World) (h : Row w a zs.length zs) (hn : a = none → cap = 0) (hlc : zs.length ≤ cap) (hcm : cap ≤ maxLen) (hl : zs.length ≤ 1073741824) (P : Pos) (hP : P = ⟨zs, false⟩) (hk : (P.num 1 : Int) = 7) :
    Calls Try.prog 8 #[.slice a zs.length cap] w fun e w' => RParseIs zs w e w' := by
  have b1 : Bytes P.zs := by rw [hP]; exact h.2.1
  have hs0 := rparse_start w a cap zs h hn hlc hcm hl
  rw [← hP] at hs0
  have l1 := num1_lt b1
  have k1 := fun w' => rfP_number (w.heap.size + 1) w.heap.size P 1 (by omega) (by omega) w'
  have hgd : good zs = (!bad P && (!(endRq P).short && decide ((endRq P).zs = []))) := by rw [hP]; rfl
  rw [hk] at k1
  obtain ⟨p1, hp1⟩ : ∃ x, x = P.skip 1 := ⟨_, rfl⟩
  have b2 : Bytes p1.zs := by rw [hp1]; exact skip_bytes b1 1
  rw [← hp1] at k1
  have k2 := fun u => ptok_any (w.heap.size + 2) (w.heap.size + 1) w.heap.size p1 false u
  obtain ⟨⟨tb, tg, ts, tx⟩, hn2⟩ : ∃ n, n = rdTok p1 := ⟨_, rfl⟩
  obtain ⟨p2, hp2⟩ : ∃ x, x = endTok p1 := ⟨_, rfl⟩
  have b3 : Bytes p2.zs := by rw [hp2]; exact endTok_bytes b2
  rw [← hn2, ← hp2] at k2
  simp only [tv] at k2
  have k3 := fun u => pop_any (w.heap.size + 2) (w.heap.size + 1) w.heap.size p2 false 7 (by omega) u
  obtain ⟨o, hn3⟩ : ∃ n, n = rdOp 7 (decide ((7 : Int) = 8)) p2 := ⟨_, rfl⟩
  obtain ⟨p3, hp3⟩ : ∃ x, x = endOp 7 (decide ((7 : Int) = 8)) p2 := ⟨_, rfl⟩
  obtain ⟨bo, hbo⟩ : ∃ x, x = badOp 7 (decide ((7 : Int) = 8)) p2 := ⟨_, rfl⟩
  rw [← hn3, ← hp3, ← hbo, Bool.false_or] at k3
  unfold ov at k3
  have hkc : 6 ≤ (P.num 1 : Int) ∧ (P.num 1 : Int) ≤ 8 := by omega
  have hbad : bad P = bo := by
    unfold bad
    rw [← hp1, badBody_c6 hkc]
    all_goals try rw [hk]
    all_goals try simp only [← hn2, ← hp2, ← hn3, ← hp3, ← hbo]
  have hend : endRq P = p3 := by
    unfold endRq
    rw [← hp1, endBody_c6 hkc]
    all_goals try rw [hk]
    all_goals try simp only [← hp2, ← hp3]
  have hq : readRq P = ⟨7, 0, 0, zeroQuo, ⟨tb, tg, ts, tx⟩, [o], nothing, false, 0, 0, 0⟩ := by
    unfold readRq
    rw [← hp1, rdBody_c6 hkc, hk]
    all_goals try simp only [← hn2, ← hp2, ← hn3, ← hp3]
  rw [hend] at hgd
  unfold RParseIs
  rw [← hP, hq]
  have HG := Lib.hid hgd
  have HBAD := Lib.hid hbad
  clear h hn hlc hcm hl hP hq hkc hgd hbad hend hp1 hn2 hp2 hn3 hp3 hbo 
  skip
  simp only [rv, rcells, zeroQuo, zeroTok, nothing, zeroRq]
  unfold rzero at hs0
  go_enter Try.func8, Try.ntmps8
  have q0 := hs0.pp.c0
  go_wp2_with fail
  clear q0
  refine (k1 _ hs0.pp.rd).mono ?_
  rintro e w1 ⟨rfl, hr, hb⟩
  have hr1 := hs0.read hr hb b2
  clear hr hb hs0 k1
  have cA : w1.cell? ⟨(w.heap.size + 3), 0, none⟩ = some (.int .i64 0) := hr1.cell 0 rfl
  have fA : w1.frozen? ⟨(w.heap.size + 3), 0, none⟩ = false := hr1.frozen 0
  have hs1 := hr1.set 0 (.int .i64 7) (cs' := #[.int .i64 7, .int .u64 0, .int .i64 0, .int .i64 0, .int .i64 0, .int .i64 0, .int .i64 0, .int .u32 0, .int .u32 0, .int .u64 0, .slice none 0 0, .string ⟨#[]⟩, .bool false, .int .i64 0, .int .i64 0, .int .u32 0]) rfl
  clear hr1
  have c0 : World.cell? _ ⟨(w.heap.size + 3), 0, none⟩ = some (.int .i64 7) := hs1.cell 0 rfl
  go_wp2_with fail
  refine (k2 _ hs1.pp).mono ?_
  rintro e w2 ⟨rfl, hp, hb⟩
  have hr2 := hs1.call hp hb
  clear hp hb hs1 k2 c0
  have c6 : w2.cell? ⟨(w.heap.size + 3), 6, none⟩ = some (.int .i64 0) := hr2.cell 6 rfl
  have f6 : w2.frozen? ⟨(w.heap.size + 3), 6, none⟩ = false := hr2.frozen 6
  have c7 : w2.cell? ⟨(w.heap.size + 3), 7, none⟩ = some (.int .u32 0) := hr2.cell 7 rfl
  have f7 : w2.frozen? ⟨(w.heap.size + 3), 7, none⟩ = false := hr2.frozen 7
  have c8 : w2.cell? ⟨(w.heap.size + 3), 8, none⟩ = some (.int .u32 0) := hr2.cell 8 rfl
  have f8 : w2.frozen? ⟨(w.heap.size + 3), 8, none⟩ = false := hr2.frozen 8
  have c9 : w2.cell? ⟨(w.heap.size + 3), 9, none⟩ = some (.int .u64 0) := hr2.cell 9 rfl
  have f9 : w2.frozen? ⟨(w.heap.size + 3), 9, none⟩ = false := hr2.frozen 9
  have hq0 := hr2.set 6 (.int .i64 tb) (cs' := #[.int .i64 7, .int .u64 0, .int .i64 0, .int .i64 0, .int .i64 0, .int .i64 0, .int .i64 tb, .int .u32 0, .int .u32 0, .int .u64 0, .slice none 0 0, .string ⟨#[]⟩, .bool false, .int .i64 0, .int .i64 0, .int .u32 0]) rfl
  have hq1 := hq0.set 7 (.int .u32 (tg : Int)) (cs' := #[.int .i64 7, .int .u64 0, .int .i64 0, .int .i64 0, .int .i64 0, .int .i64 0, .int .i64 tb, .int .u32 (tg : Int), .int .u32 0, .int .u64 0, .slice none 0 0, .string ⟨#[]⟩, .bool false, .int .i64 0, .int .i64 0, .int .u32 0]) rfl
  have hq2 := hq1.set 8 (.int .u32 (ts : Int)) (cs' := #[.int .i64 7, .int .u64 0, .int .i64 0, .int .i64 0, .int .i64 0, .int .i64 0, .int .i64 tb, .int .u32 (tg : Int), .int .u32 (ts : Int), .int .u64 0, .slice none 0 0, .string ⟨#[]⟩, .bool false, .int .i64 0, .int .i64 0, .int .u32 0]) rfl
  have hq3 := hq2.set 9 (.int .u64 (tx : Int)) (cs' := #[.int .i64 7, .int .u64 0, .int .i64 0, .int .i64 0, .int .i64 0, .int .i64 0, .int .i64 tb, .int .u32 (tg : Int), .int .u32 (ts : Int), .int .u64 (tx : Int), .slice none 0 0, .string ⟨#[]⟩, .bool false, .int .i64 0, .int .i64 0, .int .u32 0]) rfl
  have hs2 := hq3
  clear hq0 hq1 hq2 hq3 hr2
  try clear c0
  have c0 : World.cell? _ ⟨(w.heap.size + 3), 0, none⟩ = some (.int .i64 7) := hs2.cell 0 rfl
  go_wp2_with fail
  refine (k3 _ hs2.pp).mono ?_
  rintro e w3 ⟨rfl, hp, hb⟩
  have hr3 := hs2.call hp hb
  clear hp hb hs2 k3 c0
  have hlo := hr3.box.lt
  have hW := hr3.new (But.alloc (But.alloc (But.refl (fun _ => False) w3) (.cells #[.bool o.del, .string o.key, .string o.val, .int .u64 (o.cond : Int), .int .u64 (o.ttl : Int)] 83)) (.cells #[.bool o.del, .string o.key, .string o.val, .int .u64 (o.cond : Int), .int .u64 (o.ttl : Int)] 83))
  have c10 : World.cell? _ ⟨(w.heap.size + 3), 10, none⟩ = some (.slice none 0 0) := hW.cell 10 rfl
  have f10 : World.frozen? _ ⟨(w.heap.size + 3), 10, none⟩ = false := hW.frozen 10
  have hs3 := hW.set 10 (.slice (some ⟨w3.heap.size + 1, 0, none⟩) 1 1) (cs' := #[.int .i64 7, .int .u64 0, .int .i64 0, .int .i64 0, .int .i64 0, .int .i64 0, .int .i64 tb, .int .u32 (tg : Int), .int .u32 (ts : Int), .int .u64 (tx : Int), .slice (some ⟨w3.heap.size + 1, 0, none⟩) 1 1, .string ⟨#[]⟩, .bool false, .int .i64 0, .int .i64 0, .int .u32 0]) rfl
  have HOF := Lib.hid ((opsFrom_two w3 o 83).but ((But.refl (fun k => k = (w.heap.size + 3)) _).setCell (p := ⟨(w.heap.size + 3), 10, none⟩) rfl (.slice (some ⟨w3.heap.size + 1, 0, none⟩) 1 1)) (fun k h1 _ e => by omega))
  have HLO := Lib.hid hlo
  clear hr3 hW hlo
  cases bo
  rotate_left
  · have c0 : World.cell? _ ⟨(w.heap.size + 3), 0, none⟩ = some (.int .i64 7) := hs3.cell 0 rfl
    have q0 := hs3.pp.c0
    have q1 := hs3.pp.c1
    have HNB := Lib.hid (hs3.res)
    have hone : (rzero : Array Value).all (fun x => x.oneCell') = true := by simp [rzero, Value.oneCell']
    have HONE := Lib.hid hone
    have HSZ := Lib.hid (ref_size.trans (show some 16 = some rzero.size from rfl))
    have HLAST := Lib.hid (hs3.last rzero)
    clear hone hs3
    unfold rzero at HNB HONE HSZ HLAST
    go_wp2_with (refine wpList_store_rowTo rfl 39 _ _ rfl rfl w.heap.size #[.int .i64 0, .int .u64 0, .int .i64 0, .int .i64 0, .int .i64 0, .int .i64 0, .int .i64 0, .int .u32 0, .int .u32 0, .int .u64 0, .slice none 0 0, .string ⟨#[]⟩, .bool false, .int .i64 0, .int .i64 0, .int .u32 0] rfl rfl 39 #[.int .i64 0, .int .u64 0, .int .i64 0, .int .i64 0, .int .i64 0, .int .i64 0, .int .i64 0, .int .u32 0, .int .u32 0, .int .u64 0, .slice none 0 0, .string ⟨#[]⟩, .bool false, .int .i64 0, .int .i64 0, .int .u32 0] HNB.out HSZ.out rfl HONE.out ?_)
    refine bodyPost_ret (results_row_tmp rfl _ _ w.heap.size 39 #[.int .i64 0, .int .u64 0, .int .i64 0, .int .i64 0, .int .i64 0, .int .i64 0, .int .i64 0, .int .u32 0, .int .u32 0, .int .u64 0, .slice none 0 0, .string ⟨#[]⟩, .bool false, .int .i64 0, .int .i64 0, .int .u32 0] (0, 0) _ rfl (setRow_heap _ _ _ _ _ _ HNB.out) Try.underlying39 rfl HSZ.out) rfl ?_
    exact ⟨(HLAST.out.2).below (Nat.le_refl _) (fun k hk => by rcases hk with e | e <;> omega), .inr ⟨by rw [HG.out, HBAD.out]; first | rfl | simp, rfl⟩⟩
  have c0 : World.cell? _ ⟨(w.heap.size + 3), 0, none⟩ = some (.int .i64 7) := hs3.cell 0 rfl
  have q0 := hs3.pp.c0
  have q1 := hs3.pp.c1
  have q2 := Rf.short hs3.pp.rd
  obtain ⟨sh, hsh⟩ : ∃ s, s = p3.short := ⟨_, rfl⟩
  rw [← hsh] at q2
  have HSH := Lib.hid hsh
  have kleft := refLeft_any (w.heap.size + 1) p3.zs p3.short _ hs3.pp.rd
  have HKL := Lib.hid kleft
  clear hsh kleft
  cases sh
  rotate_left
  · have HNB := Lib.hid (hs3.res)
    have hone : (rzero : Array Value).all (fun x => x.oneCell') = true := by simp [rzero, Value.oneCell']
    have HONE := Lib.hid hone
    have HSZ := Lib.hid (ref_size.trans (show some 16 = some rzero.size from rfl))
    have HLAST := Lib.hid (hs3.last rzero)
    clear hone hs3 HKL
    unfold rzero at HNB HONE HSZ HLAST
    go_wp2_with (refine wpList_store_rowTo rfl 39 _ _ rfl rfl w.heap.size #[.int .i64 0, .int .u64 0, .int .i64 0, .int .i64 0, .int .i64 0, .int .i64 0, .int .i64 0, .int .u32 0, .int .u32 0, .int .u64 0, .slice none 0 0, .string ⟨#[]⟩, .bool false, .int .i64 0, .int .i64 0, .int .u32 0] rfl rfl 39 #[.int .i64 0, .int .u64 0, .int .i64 0, .int .i64 0, .int .i64 0, .int .i64 0, .int .i64 0, .int .u32 0, .int .u32 0, .int .u64 0, .slice none 0 0, .string ⟨#[]⟩, .bool false, .int .i64 0, .int .i64 0, .int .u32 0] HNB.out HSZ.out rfl HONE.out ?_)
    refine bodyPost_ret (results_row_tmp rfl _ _ w.heap.size 39 #[.int .i64 0, .int .u64 0, .int .i64 0, .int .i64 0, .int .i64 0, .int .i64 0, .int .i64 0, .int .u32 0, .int .u32 0, .int .u64 0, .slice none 0 0, .string ⟨#[]⟩, .bool false, .int .i64 0, .int .i64 0, .int .u32 0] (0, 0) _ rfl (setRow_heap _ _ _ _ _ _ HNB.out) Try.underlying39 rfl HSZ.out) rfl ?_
    exact ⟨(HLAST.out.2).below (Nat.le_refl _) (fun k hk => by rcases hk with e | e <;> omega), .inr ⟨by rw [HG.out, HBAD.out, ← HSH.out]; simp, rfl⟩⟩
  go_wp2_with fail
  refine HKL.out.mono ?_
  rintro e wL ⟨rfl, nL, rfl⟩
  have hsL := hs3.new (But.drewN (But.refl (fun _ => False) _) nL)
  clear hs3 HKL q0 q1 q2
  by_cases hz : p3.zs.length = 0
  rotate_left
  · have hz1 : decide ((0 : Int) < (p3.zs.length : Int)) = true := decide_eq_true (by omega)
    have hpos : 0 < p3.zs.length := by omega
    have hposI : (0 : Int) < (p3.zs.length : Int) := by omega
    have HZN := Lib.hid (show decide (p3.zs = []) = false from decide_eq_false (fun e => hz (by rw [e]; rfl)))
    clear hz
    have HNB := Lib.hid (hsL.res)
    have hone : (rzero : Array Value).all (fun x => x.oneCell') = true := by simp [rzero, Value.oneCell']
    have HONE := Lib.hid hone
    have HSZ := Lib.hid (ref_size.trans (show some 16 = some rzero.size from rfl))
    have HLAST := Lib.hid (hsL.last rzero)
    clear hone hsL
    unfold rzero at HNB HONE HSZ HLAST
    go_wp2_with (refine wpList_store_rowTo rfl 39 _ _ rfl rfl w.heap.size #[.int .i64 0, .int .u64 0, .int .i64 0, .int .i64 0, .int .i64 0, .int .i64 0, .int .i64 0, .int .u32 0, .int .u32 0, .int .u64 0, .slice none 0 0, .string ⟨#[]⟩, .bool false, .int .i64 0, .int .i64 0, .int .u32 0] rfl rfl 39 #[.int .i64 0, .int .u64 0, .int .i64 0, .int .i64 0, .int .i64 0, .int .i64 0, .int .i64 0, .int .u32 0, .int .u32 0, .int .u64 0, .slice none 0 0, .string ⟨#[]⟩, .bool false, .int .i64 0, .int .i64 0, .int .u32 0] HNB.out HSZ.out rfl HONE.out ?_)
    refine bodyPost_ret (results_row_tmp rfl _ _ w.heap.size 39 #[.int .i64 0, .int .u64 0, .int .i64 0, .int .i64 0, .int .i64 0, .int .i64 0, .int .i64 0, .int .u32 0, .int .u32 0, .int .u64 0, .slice none 0 0, .string ⟨#[]⟩, .bool false, .int .i64 0, .int .i64 0, .int .u32 0] (0, 0) _ rfl (setRow_heap _ _ _ _ _ _ HNB.out) Try.underlying39 rfl HSZ.out) rfl ?_
    exact ⟨(HLAST.out.2).below (Nat.le_refl _) (fun k hk => by rcases hk with e | e <;> omega), .inr ⟨by rw [HG.out, HBAD.out, HZN.out]; simp, rfl⟩⟩
  have hz1 : decide ((0 : Int) < (p3.zs.length : Int)) = false := decide_eq_false (by omega)
  have HZN := Lib.hid (show decide (p3.zs = []) = true from decide_eq_true (List.eq_nil_of_length_eq_zero hz))
  rw [hz]
  clear hz hz1
  have HBX := Lib.hid (show _ = _ from hsL.box)
  have HRX := Lib.hid (show _ = _ from hsL.res)
  have HLAST := Lib.hid (hsL.last #[.int .i64 7, .int .u64 0, .int .i64 0, .int .i64 0, .int .i64 0, .int .i64 0, .int .i64 tb, .int .u32 (tg : Int), .int .u32 (ts : Int), .int .u64 (tx : Int), .slice (some ⟨w3.heap.size + 1, 0, none⟩) 1 1, .string ⟨#[]⟩, .bool false, .int .i64 0, .int .i64 0, .int .u32 0])
  have HOF2 := Lib.hid (HOF.out.new (But.drewN (But.refl (fun _ => False) _) nL))
  clear hsL
  have hone : (#[.int .i64 7, .int .u64 0, .int .i64 0, .int .i64 0, .int .i64 0, .int .i64 0, .int .i64 tb, .int .u32 (tg : Int), .int .u32 (ts : Int), .int .u64 (tx : Int), .slice (some ⟨w3.heap.size + 1, 0, none⟩) 1 1, .string ⟨#[]⟩, .bool false, .int .i64 0, .int .i64 0, .int .u32 0] : Array Value).all (fun x => x.oneCell') = true := by simp [Value.oneCell']
  have HONE := Lib.hid hone
  clear hone
  have HOLD := Lib.hid (show (rzero : Array Value).size = (#[.int .i64 7, .int .u64 0, .int .i64 0, .int .i64 0, .int .i64 0, .int .i64 0, .int .i64 tb, .int .u32 (tg : Int), .int .u32 (ts : Int), .int .u64 (tx : Int), .slice (some ⟨w3.heap.size + 1, 0, none⟩) 1 1, .string ⟨#[]⟩, .bool false, .int .i64 0, .int .i64 0, .int .u32 0] : Array Value).size by simp [rzero])
  have HSZ := Lib.hid (ref_size.trans (show some 16 = some (#[.int .i64 7, .int .u64 0, .int .i64 0, .int .i64 0, .int .i64 0, .int .i64 0, .int .i64 tb, .int .u32 (tg : Int), .int .u32 (ts : Int), .int .u64 (tx : Int), .slice (some ⟨w3.heap.size + 1, 0, none⟩) 1 1, .string ⟨#[]⟩, .bool false, .int .i64 0, .int .i64 0, .int .u32 0] : Array Value).size by simp))
  go_wp2_with (first
    | (refine wpList_load_row rfl 39 _ rfl (w.heap.size + 3) rfl 39 _ (0, 0) _ HBX.out Try.underlying39 rfl HSZ.out ?_)
    | (refine wpList_store_rowTo rfl 39 _ _ rfl rfl w.heap.size #[.int .i64 7, .int .u64 0, .int .i64 0, .int .i64 0, .int .i64 0, .int .i64 0, .int .i64 tb, .int .u32 (tg : Int), .int .u32 (ts : Int), .int .u64 (tx : Int), .slice (some ⟨w3.heap.size + 1, 0, none⟩) 1 1, .string ⟨#[]⟩, .bool false, .int .i64 0, .int .i64 0, .int .u32 0] rfl rfl 39 rzero HRX.out HSZ.out HOLD.out HONE.out ?_))
  refine bodyPost_ret (results_row_tmp rfl _ _ w.heap.size 39 #[.int .i64 7, .int .u64 0, .int .i64 0, .int .i64 0, .int .i64 0, .int .i64 0, .int .i64 tb, .int .u32 (tg : Int), .int .u32 (ts : Int), .int .u64 (tx : Int), .slice (some ⟨w3.heap.size + 1, 0, none⟩) 1 1, .string ⟨#[]⟩, .bool false, .int .i64 0, .int .i64 0, .int .u32 0] (0, 0) _ rfl (setRow_heap _ _ _ _ _ _ HRX.out) Try.underlying39 rfl HSZ.out) rfl ?_
  have hwb : Below w.heap.size w _ := (HLAST.out.2).below (Nat.le_refl _) (fun k hk => by rcases hk with e | e <;> omega)
  exact ⟨hwb, .inl ⟨by rw [HG.out, HBAD.out, ← HSH.out, HZN.out]; rfl, _, rfl, (HOF2.out.but (but_setRow (fun k => k = w.heap.size) (But.refl _ _) (.inl rfl) _) (fun k h1 _ e => by have := HLO.out; omega)).at_⟩⟩
set_option maxRecDepth 100000 in
set_option maxHeartbeats 8000000 in
theorem rparse_c6c (a : Option Addr) (cap : Nat) (zs : List Int) (w : World) (h : Row w a zs.length zs) (hn : a = none → cap = 0) (hlc : zs.length ≤ cap) (hcm : cap ≤ maxLen) (hl : zs.length ≤ 1073741824) (P : Pos) (hP : P = ⟨zs, false⟩) (hk : (P.num 1 : Int) = 8) :
    Calls Try.prog 8 #[.slice a zs.length cap] w fun e w' => RParseIs zs w e w' := by
  have b1 : Bytes P.zs := by rw [hP]; exact h.2.1
  have hs0 := rparse_start w a cap zs h hn hlc hcm hl
  rw [← hP] at hs0
  have l1 := num1_lt b1
  have k1 := fun w' => rfP_number (w.heap.size + 1) w.heap.size P 1 (by omega) (by omega) w'
  have hgd : good zs = (!bad P && (!(endRq P).short && decide ((endRq P).zs = []))) := by rw [hP]; rfl
  rw [hk] at k1
  obtain ⟨p1, hp1⟩ : ∃ x, x = P.skip 1 := ⟨_, rfl⟩
  have b2 : Bytes p1.zs := by rw [hp1]; exact skip_bytes b1 1
  rw [← hp1] at k1
  have k2 := fun u => ptok_any (w.heap.size + 2) (w.heap.size + 1) w.heap.size p1 false u
  obtain ⟨⟨tb, tg, ts, tx⟩, hn2⟩ : ∃ n, n = rdTok p1 := ⟨_, rfl⟩
  obtain ⟨p2, hp2⟩ : ∃ x, x = endTok p1 := ⟨_, rfl⟩
  have b3 : Bytes p2.zs := by rw [hp2]; exact endTok_bytes b2
  rw [← hn2, ← hp2] at k2
  simp only [tv] at k2
  have k3 := fun u => pop_any (w.heap.size + 2) (w.heap.size + 1) w.heap.size p2 false 8 (by omega) u
  obtain ⟨o, hn3⟩ : ∃ n, n = rdOp 8 (decide ((8 : Int) = 8)) p2 := ⟨_, rfl⟩
  obtain ⟨p3, hp3⟩ : ∃ x, x = endOp 8 (decide ((8 : Int) = 8)) p2 := ⟨_, rfl⟩
  obtain ⟨bo, hbo⟩ : ∃ x, x = badOp 8 (decide ((8 : Int) = 8)) p2 := ⟨_, rfl⟩
  rw [← hn3, ← hp3, ← hbo, Bool.false_or] at k3
  unfold ov at k3
  have hkc : 6 ≤ (P.num 1 : Int) ∧ (P.num 1 : Int) ≤ 8 := by omega
  have hbad : bad P = bo := by
    unfold bad
    rw [← hp1, badBody_c6 hkc]
    all_goals try rw [hk]
    all_goals ((try rw [← hn2]); (try rw [← hp2]); (try rw [← hn3]); (try rw [← hp3]); (try rw [← hbo]))
  have hend : endRq P = p3 := by
    unfold endRq
    rw [← hp1, endBody_c6 hkc]
    all_goals try rw [hk]
    all_goals ((try rw [← hp2]); (try rw [← hp3]))
  have hq : readRq P = ⟨8, 0, 0, zeroQuo, ⟨tb, tg, ts, tx⟩, [o], nothing, false, 0, 0, 0⟩ := by
    unfold readRq
    rw [← hp1, rdBody_c6 hkc, hk]
    all_goals ((try rw [← hn2]); (try rw [← hp2]); (try rw [← hn3]); (try rw [← hp3]))
  rw [hend] at hgd
  unfold RParseIs
  rw [← hP, hq]
  have HG := Lib.hid hgd
  have HBAD := Lib.hid hbad
  clear h hn hlc hcm hl hP hq hkc hgd hbad hend hp1 hn2 hp2 hn3 hp3 hbo 
  skip
  simp only [rv, rcells, zeroQuo, zeroTok, nothing, zeroRq]
  unfold rzero at hs0
  go_enter Try.func8, Try.ntmps8
  have q0 := hs0.pp.c0
  go_wp2_with fail
  clear q0
  refine (k1 _ hs0.pp.rd).mono ?_
  rintro e w1 ⟨rfl, hr, hb⟩
  have hr1 := hs0.read hr hb b2
  clear hr hb hs0 k1
  have cA : w1.cell? ⟨(w.heap.size + 3), 0, none⟩ = some (.int .i64 0) := hr1.cell 0 rfl
  have fA : w1.frozen? ⟨(w.heap.size + 3), 0, none⟩ = false := hr1.frozen 0
  have hs1 := hr1.set 0 (.int .i64 8) (cs' := #[.int .i64 8, .int .u64 0, .int .i64 0, .int .i64 0, .int .i64 0, .int .i64 0, .int .i64 0, .int .u32 0, .int .u32 0, .int .u64 0, .slice none 0 0, .string ⟨#[]⟩, .bool false, .int .i64 0, .int .i64 0, .int .u32 0]) rfl
  clear hr1
  have c0 : World.cell? _ ⟨(w.heap.size + 3), 0, none⟩ = some (.int .i64 8) := hs1.cell 0 rfl
  go_wp2_with fail
  refine (k2 _ hs1.pp).mono ?_
  rintro e w2 ⟨rfl, hp, hb⟩
  have hr2 := hs1.call hp hb
  clear hp hb hs1 k2 c0
  have c6 : w2.cell? ⟨(w.heap.size + 3), 6, none⟩ = some (.int .i64 0) := hr2.cell 6 rfl
  have f6 : w2.frozen? ⟨(w.heap.size + 3), 6, none⟩ = false := hr2.frozen 6
  have c7 : w2.cell? ⟨(w.heap.size + 3), 7, none⟩ = some (.int .u32 0) := hr2.cell 7 rfl
  have f7 : w2.frozen? ⟨(w.heap.size + 3), 7, none⟩ = false := hr2.frozen 7
  have c8 : w2.cell? ⟨(w.heap.size + 3), 8, none⟩ = some (.int .u32 0) := hr2.cell 8 rfl
  have f8 : w2.frozen? ⟨(w.heap.size + 3), 8, none⟩ = false := hr2.frozen 8
  have c9 : w2.cell? ⟨(w.heap.size + 3), 9, none⟩ = some (.int .u64 0) := hr2.cell 9 rfl
  have f9 : w2.frozen? ⟨(w.heap.size + 3), 9, none⟩ = false := hr2.frozen 9
  have hq0 := hr2.set 6 (.int .i64 tb) (cs' := #[.int .i64 8, .int .u64 0, .int .i64 0, .int .i64 0, .int .i64 0, .int .i64 0, .int .i64 tb, .int .u32 0, .int .u32 0, .int .u64 0, .slice none 0 0, .string ⟨#[]⟩, .bool false, .int .i64 0, .int .i64 0, .int .u32 0]) rfl
  have hq1 := hq0.set 7 (.int .u32 (tg : Int)) (cs' := #[.int .i64 8, .int .u64 0, .int .i64 0, .int .i64 0, .int .i64 0, .int .i64 0, .int .i64 tb, .int .u32 (tg : Int), .int .u32 0, .int .u64 0, .slice none 0 0, .string ⟨#[]⟩, .bool false, .int .i64 0, .int .i64 0, .int .u32 0]) rfl
  have hq2 := hq1.set 8 (.int .u32 (ts : Int)) (cs' := #[.int .i64 8, .int .u64 0, .int .i64 0, .int .i64 0, .int .i64 0, .int .i64 0, .int .i64 tb, .int .u32 (tg : Int), .int .u32 (ts : Int), .int .u64 0, .slice none 0 0, .string ⟨#[]⟩, .bool false, .int .i64 0, .int .i64 0, .int .u32 0]) rfl
  have hq3 := hq2.set 9 (.int .u64 (tx : Int)) (cs' := #[.int .i64 8, .int .u64 0, .int .i64 0, .int .i64 0, .int .i64 0, .int .i64 0, .int .i64 tb, .int .u32 (tg : Int), .int .u32 (ts : Int), .int .u64 (tx : Int), .slice none 0 0, .string ⟨#[]⟩, .bool false, .int .i64 0, .int .i64 0, .int .u32 0]) rfl
  have hs2 := hq3
  clear hq0 hq1 hq2 hq3 hr2
  try clear c0
  have c0 : World.cell? _ ⟨(w.heap.size + 3), 0, none⟩ = some (.int .i64 8) := hs2.cell 0 rfl
  go_wp2_with fail
  refine (k3 _ hs2.pp).mono ?_
  rintro e w3 ⟨rfl, hp, hb⟩
  have hr3 := hs2.call hp hb
  clear hp hb hs2 k3 c0
  have hlo := hr3.box.lt
  have hW := hr3.new (But.alloc (But.alloc (But.refl (fun _ => False) w3) (.cells #[.bool o.del, .string o.key, .string o.val, .int .u64 (o.cond : Int), .int .u64 (o.ttl : Int)] 83)) (.cells #[.bool o.del, .string o.key, .string o.val, .int .u64 (o.cond : Int), .int .u64 (o.ttl : Int)] 83))
  have c10 : World.cell? _ ⟨(w.heap.size + 3), 10, none⟩ = some (.slice none 0 0) := hW.cell 10 rfl
  have f10 : World.frozen? _ ⟨(w.heap.size + 3), 10, none⟩ = false := hW.frozen 10
  have hs3 := hW.set 10 (.slice (some ⟨w3.heap.size + 1, 0, none⟩) 1 1) (cs' := #[.int .i64 8, .int .u64 0, .int .i64 0, .int .i64 0, .int .i64 0, .int .i64 0, .int .i64 tb, .int .u32 (tg : Int), .int .u32 (ts : Int), .int .u64 (tx : Int), .slice (some ⟨w3.heap.size + 1, 0, none⟩) 1 1, .string ⟨#[]⟩, .bool false, .int .i64 0, .int .i64 0, .int .u32 0]) rfl
  have HOF := Lib.hid ((opsFrom_two w3 o 83).but ((But.refl (fun k => k = (w.heap.size + 3)) _).setCell (p := ⟨(w.heap.size + 3), 10, none⟩) rfl (.slice (some ⟨w3.heap.size + 1, 0, none⟩) 1 1)) (fun k h1 _ e => by omega))
  have HLO := Lib.hid hlo
  clear hr3 hW hlo
  cases bo
  rotate_left
  · have c0 : World.cell? _ ⟨(w.heap.size + 3), 0, none⟩ = some (.int .i64 8) := hs3.cell 0 rfl
    have q0 := hs3.pp.c0
    have q1 := hs3.pp.c1
    have HNB := Lib.hid (hs3.res)
    have hone : (rzero : Array Value).all (fun x => x.oneCell') = true := by simp [rzero, Value.oneCell']
    have HONE := Lib.hid hone
    have HSZ := Lib.hid (ref_size.trans (show some 16 = some rzero.size from rfl))
    have HLAST := Lib.hid (hs3.last rzero)
    clear hone hs3
    unfold rzero at HNB HONE HSZ HLAST
    go_wp2_with (refine wpList_store_rowTo rfl 39 _ _ rfl rfl w.heap.size #[.int .i64 0, .int .u64 0, .int .i64 0, .int .i64 0, .int .i64 0, .int .i64 0, .int .i64 0, .int .u32 0, .int .u32 0, .int .u64 0, .slice none 0 0, .string ⟨#[]⟩, .bool false, .int .i64 0, .int .i64 0, .int .u32 0] rfl rfl 39 #[.int .i64 0, .int .u64 0, .int .i64 0, .int .i64 0, .int .i64 0, .int .i64 0, .int .i64 0, .int .u32 0, .int .u32 0, .int .u64 0, .slice none 0 0, .string ⟨#[]⟩, .bool false, .int .i64 0, .int .i64 0, .int .u32 0] HNB.out HSZ.out rfl HONE.out ?_)
    refine bodyPost_ret (results_row_tmp rfl _ _ w.heap.size 39 #[.int .i64 0, .int .u64 0, .int .i64 0, .int .i64 0, .int .i64 0, .int .i64 0, .int .i64 0, .int .u32 0, .int .u32 0, .int .u64 0, .slice none 0 0, .string ⟨#[]⟩, .bool false, .int .i64 0, .int .i64 0, .int .u32 0] (0, 0) _ rfl (setRow_heap _ _ _ _ _ _ HNB.out) Try.underlying39 rfl HSZ.out) rfl ?_
    exact ⟨(HLAST.out.2).below (Nat.le_refl _) (fun k hk => by rcases hk with e | e <;> omega), .inr ⟨by rw [HG.out, HBAD.out]; first | rfl | simp, rfl⟩⟩
  have c0 : World.cell? _ ⟨(w.heap.size + 3), 0, none⟩ = some (.int .i64 8) := hs3.cell 0 rfl
  have q0 := hs3.pp.c0
  have q1 := hs3.pp.c1
  have q2 := Rf.short hs3.pp.rd
  obtain ⟨sh, hsh⟩ : ∃ s, s = p3.short := ⟨_, rfl⟩
  rw [← hsh] at q2
  have HSH := Lib.hid hsh
  have kleft := refLeft_any (w.heap.size + 1) p3.zs p3.short _ hs3.pp.rd
  have HKL := Lib.hid kleft
  clear hsh kleft
  cases sh
  rotate_left
  · have HNB := Lib.hid (hs3.res)
    have hone : (rzero : Array Value).all (fun x => x.oneCell') = true := by simp [rzero, Value.oneCell']
    have HONE := Lib.hid hone
    have HSZ := Lib.hid (ref_size.trans (show some 16 = some rzero.size from rfl))
    have HLAST := Lib.hid (hs3.last rzero)
    clear hone hs3 HKL
    unfold rzero at HNB HONE HSZ HLAST
    go_wp2_with (refine wpList_store_rowTo rfl 39 _ _ rfl rfl w.heap.size #[.int .i64 0, .int .u64 0, .int .i64 0, .int .i64 0, .int .i64 0, .int .i64 0, .int .i64 0, .int .u32 0, .int .u32 0, .int .u64 0, .slice none 0 0, .string ⟨#[]⟩, .bool false, .int .i64 0, .int .i64 0, .int .u32 0] rfl rfl 39 #[.int .i64 0, .int .u64 0, .int .i64 0, .int .i64 0, .int .i64 0, .int .i64 0, .int .i64 0, .int .u32 0, .int .u32 0, .int .u64 0, .slice none 0 0, .string ⟨#[]⟩, .bool false, .int .i64 0, .int .i64 0, .int .u32 0] HNB.out HSZ.out rfl HONE.out ?_)
    refine bodyPost_ret (results_row_tmp rfl _ _ w.heap.size 39 #[.int .i64 0, .int .u64 0, .int .i64 0, .int .i64 0, .int .i64 0, .int .i64 0, .int .i64 0, .int .u32 0, .int .u32 0, .int .u64 0, .slice none 0 0, .string ⟨#[]⟩, .bool false, .int .i64 0, .int .i64 0, .int .u32 0] (0, 0) _ rfl (setRow_heap _ _ _ _ _ _ HNB.out) Try.underlying39 rfl HSZ.out) rfl ?_
    exact ⟨(HLAST.out.2).below (Nat.le_refl _) (fun k hk => by rcases hk with e | e <;> omega), .inr ⟨by rw [HG.out, HBAD.out, ← HSH.out]; simp, rfl⟩⟩
  go_wp2_with fail
  refine HKL.out.mono ?_
  rintro e wL ⟨rfl, nL, rfl⟩
  have hsL := hs3.new (But.drewN (But.refl (fun _ => False) _) nL)
  clear hs3 HKL q0 q1 q2
  by_cases hz : p3.zs.length = 0
  rotate_left
  · have hz1 : decide ((0 : Int) < (p3.zs.length : Int)) = true := decide_eq_true (by omega)
    have hpos : 0 < p3.zs.length := by omega
    have hposI : (0 : Int) < (p3.zs.length : Int) := by omega
    have HZN := Lib.hid (show decide (p3.zs = []) = false from decide_eq_false (fun e => hz (by rw [e]; rfl)))
    clear hz
    have HNB := Lib.hid (hsL.res)
    have hone : (rzero : Array Value).all (fun x => x.oneCell') = true := by simp [rzero, Value.oneCell']
    have HONE := Lib.hid hone
    have HSZ := Lib.hid (ref_size.trans (show some 16 = some rzero.size from rfl))
    have HLAST := Lib.hid (hsL.last rzero)
    clear hone hsL
    unfold rzero at HNB HONE HSZ HLAST
    go_wp2_with (refine wpList_store_rowTo rfl 39 _ _ rfl rfl w.heap.size #[.int .i64 0, .int .u64 0, .int .i64 0, .int .i64 0, .int .i64 0, .int .i64 0, .int .i64 0, .int .u32 0, .int .u32 0, .int .u64 0, .slice none 0 0, .string ⟨#[]⟩, .bool false, .int .i64 0, .int .i64 0, .int .u32 0] rfl rfl 39 #[.int .i64 0, .int .u64 0, .int .i64 0, .int .i64 0, .int .i64 0, .int .i64 0, .int .i64 0, .int .u32 0, .int .u32 0, .int .u64 0, .slice none 0 0, .string ⟨#[]⟩, .bool false, .int .i64 0, .int .i64 0, .int .u32 0] HNB.out HSZ.out rfl HONE.out ?_)
    refine bodyPost_ret (results_row_tmp rfl _ _ w.heap.size 39 #[.int .i64 0, .int .u64 0, .int .i64 0, .int .i64 0, .int .i64 0, .int .i64 0, .int .i64 0, .int .u32 0, .int .u32 0, .int .u64 0, .slice none 0 0, .string ⟨#[]⟩, .bool false, .int .i64 0, .int .i64 0, .int .u32 0] (0, 0) _ rfl (setRow_heap _ _ _ _ _ _ HNB.out) Try.underlying39 rfl HSZ.out) rfl ?_
    exact ⟨(HLAST.out.2).below (Nat.le_refl _) (fun k hk => by rcases hk with e | e <;> omega), .inr ⟨by rw [HG.out, HBAD.out, HZN.out]; simp, rfl⟩⟩
  have hz1 : decide ((0 : Int) < (p3.zs.length : Int)) = false := decide_eq_false (by omega)
  have HZN := Lib.hid (show decide (p3.zs = []) = true from decide_eq_true (List.eq_nil_of_length_eq_zero hz))
  rw [hz]
  clear hz hz1
  have HBX := Lib.hid (show _ = _ from hsL.box)
  have HRX := Lib.hid (show _ = _ from hsL.res)
  have HLAST := Lib.hid (hsL.last #[.int .i64 8, .int .u64 0, .int .i64 0, .int .i64 0, .int .i64 0, .int .i64 0, .int .i64 tb, .int .u32 (tg : Int), .int .u32 (ts : Int), .int .u64 (tx : Int), .slice (some ⟨w3.heap.size + 1, 0, none⟩) 1 1, .string ⟨#[]⟩, .bool false, .int .i64 0, .int .i64 0, .int .u32 0])
  have HOF2 := Lib.hid (HOF.out.new (But.drewN (But.refl (fun _ => False) _) nL))
  clear hsL
  have hone : (#[.int .i64 8, .int .u64 0, .int .i64 0, .int .i64 0, .int .i64 0, .int .i64 0, .int .i64 tb, .int .u32 (tg : Int), .int .u32 (ts : Int), .int .u64 (tx : Int), .slice (some ⟨w3.heap.size + 1, 0, none⟩) 1 1, .string ⟨#[]⟩, .bool false, .int .i64 0, .int .i64 0, .int .u32 0] : Array Value).all (fun x => x.oneCell') = true := by simp [Value.oneCell']
  have HONE := Lib.hid hone
  clear hone
  have HOLD := Lib.hid (show (rzero : Array Value).size = (#[.int .i64 8, .int .u64 0, .int .i64 0, .int .i64 0, .int .i64 0, .int .i64 0, .int .i64 tb, .int .u32 (tg : Int), .int .u32 (ts : Int), .int .u64 (tx : Int), .slice (some ⟨w3.heap.size + 1, 0, none⟩) 1 1, .string ⟨#[]⟩, .bool false, .int .i64 0, .int .i64 0, .int .u32 0] : Array Value).size by simp [rzero])
  have HSZ := Lib.hid (ref_size.trans (show some 16 = some (#[.int .i64 8, .int .u64 0, .int .i64 0, .int .i64 0, .int .i64 0, .int .i64 0, .int .i64 tb, .int .u32 (tg : Int), .int .u32 (ts : Int), .int .u64 (tx : Int), .slice (some ⟨w3.heap.size + 1, 0, none⟩) 1 1, .string ⟨#[]⟩, .bool false, .int .i64 0, .int .i64 0, .int .u32 0] : Array Value).size by simp))
  go_wp2_with (first
    | (refine wpList_load_row rfl 39 _ rfl (w.heap.size + 3) rfl 39 _ (0, 0) _ HBX.out Try.underlying39 rfl HSZ.out ?_)
    | (refine wpList_store_rowTo rfl 39 _ _ rfl rfl w.heap.size #[.int .i64 8, .int .u64 0, .int .i64 0, .int .i64 0, .int .i64 0, .int .i64 0, .int .i64 tb, .int .u32 (tg : Int), .int .u32 (ts : Int), .int .u64 (tx : Int), .slice (some ⟨w3.heap.size + 1, 0, none⟩) 1 1, .string ⟨#[]⟩, .bool false, .int .i64 0, .int .i64 0, .int .u32 0] rfl rfl 39 rzero HRX.out HSZ.out HOLD.out HONE.out ?_))
  refine bodyPost_ret (results_row_tmp rfl _ _ w.heap.size 39 #[.int .i64 8, .int .u64 0, .int .i64 0, .int .i64 0, .int .i64 0, .int .i64 0, .int .i64 tb, .int .u32 (tg : Int), .int .u32 (ts : Int), .int .u64 (tx : Int), .slice (some ⟨w3.heap.size + 1, 0, none⟩) 1 1, .string ⟨#[]⟩, .bool false, .int .i64 0, .int .i64 0, .int .u32 0] (0, 0) _ rfl (setRow_heap _ _ _ _ _ _ HRX.out) Try.underlying39 rfl HSZ.out) rfl ?_
  have hwb : Below w.heap.size w _ := (HLAST.out.2).below (Nat.le_refl _) (fun k hk => by rcases hk with e | e <;> omega)
  exact ⟨hwb, .inl ⟨by rw [HG.out, HBAD.out, ← HSH.out, HZN.out]; rfl, _, rfl, (HOF2.out.but (but_setRow (fun k => k = w.heap.size) (But.refl _ _) (.inl rfl) _) (fun k h1 _ e => by have := HLO.out; omega)).at_⟩⟩
end Go.Proofs.Ytbdbbnpkekcefaa.Cmd

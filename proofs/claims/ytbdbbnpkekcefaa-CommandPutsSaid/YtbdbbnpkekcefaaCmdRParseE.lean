/- What the document's Parse answers, a class of tags each. -/
import Derived.Test.YtbdbbnpkekcefaaCmdRKit
namespace Go.Proofs.Ytbdbbnpkekcefaa.Cmd
open Go.Proofs.Ytbdbbnpkekcefaa.Mem Go.Proofs.Ytbdbbnpkekcefaa.Pack
open Go.ChangeShapes Go.WideShapes Go.ChangeAt Go.RowKit
set_option linter.unusedVariables false
set_option linter.unusedSimpArgs false

set_option maxRecDepth 100000 in
set_option maxHeartbeats 8000000 in
theorem rparse_c10 (a : Option Addr) (cap : Nat) (zs : List Int) (w : World) (h : Row w a zs.length zs) (hn : a = none → cap = 0) (hlc : zs.length ≤ cap) (hcm : cap ≤ maxLen) (hl : zs.length ≤ 1073741824) (P : Pos) (hP : P = ⟨zs, false⟩) (hk : (P.num 1 : Int) = 10) :
    Calls Try.prog 8 #[.slice a zs.length cap] w fun e w' => RParseIs zs w e w' := by
  have b1 : Bytes P.zs := by rw [hP]; exact h.2.1
  have hs0 := rparse_start w a cap zs h hn hlc hcm hl
  rw [← hP] at hs0
  have l1 := num1_lt b1
  have k1 := fun w' => rfP_number (w.heap.size + 1) w.heap.size P 1 (by omega) (by omega) w'
  have hgd : good zs = (!bad P && (!(endRq P).short && decide ((endRq P).zs = []))) := by rw [hP]; rfl
  rw [hk] at k1
  obtain ⟨p1, hp1⟩ : ∃ x, x = P.skip 1 := ⟨_, rfl⟩
  have b2 : Bytes p1.zs := by rw [hp1]; exact skip_bytes b1 1
  rw [← hp1] at k1
  have k2 := fun u => ptok_any (w.heap.size + 2) (w.heap.size + 1) w.heap.size p1 false u
  obtain ⟨⟨tb, tg, ts, tx⟩, hn2⟩ : ∃ n, n = rdTok p1 := ⟨_, rfl⟩
  obtain ⟨p2, hp2⟩ : ∃ x, x = endTok p1 := ⟨_, rfl⟩
  have b3 : Bytes p2.zs := by rw [hp2]; exact endTok_bytes b2
  rw [← hn2, ← hp2] at k2
  simp only [tv] at k2
  have k3 := fun u => ptext_any (w.heap.size + 2) (w.heap.size + 1) w.heap.size p2 false 0 64 u
  obtain ⟨n3, hn3⟩ : ∃ n, n = p2.txt := ⟨_, rfl⟩
  obtain ⟨p3, hp3⟩ : ∃ x, x = p2.past := ⟨_, rfl⟩
  obtain ⟨ba, hba⟩ : ∃ x, x = badText 0 64 p2 := ⟨_, rfl⟩
  have b4 : Bytes p3.zs := by rw [hp3]; exact past_bytes b3
  rw [← hn3, ← hp3, ← hba, Bool.false_or] at k3
  have k4 := fun u => pflag_any (w.heap.size + 2) (w.heap.size + 1) w.heap.size p3 ba u
  obtain ⟨n4, hn4⟩ : ∃ n, n = isDel p3 := ⟨_, rfl⟩
  obtain ⟨p4, hp4⟩ : ∃ x, x = p3.skip 1 := ⟨_, rfl⟩
  obtain ⟨bf, hbf⟩ : ∃ x, x = badFlag p3 := ⟨_, rfl⟩
  have b5 : Bytes p4.zs := by rw [hp4]; exact skip_bytes b4 1
  rw [← hn4, ← hp4, ← hbf] at k4
  have l5 := num1_lt b5
  have k5 := fun u => rfP_number (w.heap.size + 1) w.heap.size p4 1 (by omega) (by omega) u
  obtain ⟨n5, hn5⟩ : ∃ n, n = p4.num 1 := ⟨_, rfl⟩
  obtain ⟨p5, hp5⟩ : ∃ x, x = p4.skip 1 := ⟨_, rfl⟩
  have b6 : Bytes p5.zs := by rw [hp5]; exact skip_bytes b5 1
  rw [← hn5] at k5 l5
  rw [← hp5] at k5
  have hkc : (P.num 1 : Int) = 10 := by omega
  have hbad : bad P = (ba || (bf || decide (50 < n5))) := by
    unfold bad
    rw [← hp1, badBody_c10 hkc]
    all_goals try rw [hk]
    all_goals try simp only [← hn2, ← hp2, ← hn3, ← hp3, ← hn4, ← hp4, ← hn5, ← hp5, ← hba, ← hbf]
  have hend : endRq P = p5 := by
    unfold endRq
    rw [← hp1, endBody_c10 hkc]
    all_goals try rw [hk]
    all_goals try simp only [← hp2, ← hp3, ← hp4, ← hp5]
  have hq : readRq P = ⟨10, 0, 0, zeroQuo, ⟨tb, tg, ts, tx⟩, [], n3, n4, (n5 : Int), 0, 0⟩ := by
    unfold readRq
    rw [← hp1, rdBody_c10 hkc, hk]
    all_goals try simp only [← hn2, ← hp2, ← hn3, ← hp3, ← hn4, ← hp4, ← hn5, ← hp5]
  rw [hend] at hgd
  unfold RParseIs
  rw [← hP, hq]
  have HG := Lib.hid hgd
  have HBAD := Lib.hid hbad
  clear h hn hlc hcm hl hP hq hkc hgd hbad hend hp1 hn2 hp2 hn3 hp3 hn4 hp4 hn5 hp5 hba hbf 
  skip
  simp only [rv, rcells, zeroQuo, zeroTok, nothing, zeroRq]
  unfold rzero at hs0
  go_enter Try.func8, Try.ntmps8
  have q0 := hs0.pp.c0
  go_wp2_with fail
  clear q0
  refine (k1 _ hs0.pp.rd).mono ?_
  rintro e w1 ⟨rfl, hr, hb⟩
  have hr1 := hs0.read hr hb b2
  clear hr hb hs0 k1
  have cA : w1.cell? ⟨(w.heap.size + 3), 0, none⟩ = some (.int .i64 0) := hr1.cell 0 rfl
  have fA : w1.frozen? ⟨(w.heap.size + 3), 0, none⟩ = false := hr1.frozen 0
  have hs1 := hr1.set 0 (.int .i64 10) (cs' := #[.int .i64 10, .int .u64 0, .int .i64 0, .int .i64 0, .int .i64 0, .int .i64 0, .int .i64 0, .int .u32 0, .int .u32 0, .int .u64 0, .slice none 0 0, .string ⟨#[]⟩, .bool false, .int .i64 0, .int .i64 0, .int .u32 0]) rfl
  clear hr1
  have c0 : World.cell? _ ⟨(w.heap.size + 3), 0, none⟩ = some (.int .i64 10) := hs1.cell 0 rfl
  go_wp2_with fail
  refine (k2 _ hs1.pp).mono ?_
  rintro e w2 ⟨rfl, hp, hb⟩
  have hr2 := hs1.call hp hb
  clear hp hb hs1 k2 c0
  have c6 : w2.cell? ⟨(w.heap.size + 3), 6, none⟩ = some (.int .i64 0) := hr2.cell 6 rfl
  have f6 : w2.frozen? ⟨(w.heap.size + 3), 6, none⟩ = false := hr2.frozen 6
  have c7 : w2.cell? ⟨(w.heap.size + 3), 7, none⟩ = some (.int .u32 0) := hr2.cell 7 rfl
  have f7 : w2.frozen? ⟨(w.heap.size + 3), 7, none⟩ = false := hr2.frozen 7
  have c8 : w2.cell? ⟨(w.heap.size + 3), 8, none⟩ = some (.int .u32 0) := hr2.cell 8 rfl
  have f8 : w2.frozen? ⟨(w.heap.size + 3), 8, none⟩ = false := hr2.frozen 8
  have c9 : w2.cell? ⟨(w.heap.size + 3), 9, none⟩ = some (.int .u64 0) := hr2.cell 9 rfl
  have f9 : w2.frozen? ⟨(w.heap.size + 3), 9, none⟩ = false := hr2.frozen 9
  have hq0 := hr2.set 6 (.int .i64 tb) (cs' := #[.int .i64 10, .int .u64 0, .int .i64 0, .int .i64 0, .int .i64 0, .int .i64 0, .int .i64 tb, .int .u32 0, .int .u32 0, .int .u64 0, .slice none 0 0, .string ⟨#[]⟩, .bool false, .int .i64 0, .int .i64 0, .int .u32 0]) rfl
  have hq1 := hq0.set 7 (.int .u32 (tg : Int)) (cs' := #[.int .i64 10, .int .u64 0, .int .i64 0, .int .i64 0, .int .i64 0, .int .i64 0, .int .i64 tb, .int .u32 (tg : Int), .int .u32 0, .int .u64 0, .slice none 0 0, .string ⟨#[]⟩, .bool false, .int .i64 0, .int .i64 0, .int .u32 0]) rfl
  have hq2 := hq1.set 8 (.int .u32 (ts : Int)) (cs' := #[.int .i64 10, .int .u64 0, .int .i64 0, .int .i64 0, .int .i64 0, .int .i64 0, .int .i64 tb, .int .u32 (tg : Int), .int .u32 (ts : Int), .int .u64 0, .slice none 0 0, .string ⟨#[]⟩, .bool false, .int .i64 0, .int .i64 0, .int .u32 0]) rfl
  have hq3 := hq2.set 9 (.int .u64 (tx : Int)) (cs' := #[.int .i64 10, .int .u64 0, .int .i64 0, .int .i64 0, .int .i64 0, .int .i64 0, .int .i64 tb, .int .u32 (tg : Int), .int .u32 (ts : Int), .int .u64 (tx : Int), .slice none 0 0, .string ⟨#[]⟩, .bool false, .int .i64 0, .int .i64 0, .int .u32 0]) rfl
  have hs2 := hq3
  clear hq0 hq1 hq2 hq3 hr2
  try clear c0
  have c0 : World.cell? _ ⟨(w.heap.size + 3), 0, none⟩ = some (.int .i64 10) := hs2.cell 0 rfl
  go_wp2_with fail
  refine (k3 _ hs2.pp).mono ?_
  rintro e w3 ⟨rfl, hp, hb⟩
  have hr3 := hs2.call hp hb
  clear hp hb hs2 k3 c0
  have c11 : w3.cell? ⟨(w.heap.size + 3), 11, none⟩ = some (.string ⟨#[]⟩) := hr3.cell 11 rfl
  have f11 : w3.frozen? ⟨(w.heap.size + 3), 11, none⟩ = false := hr3.frozen 11
  have hs3 := hr3.set 11 (.string n3) (cs' := #[.int .i64 10, .int .u64 0, .int .i64 0, .int .i64 0, .int .i64 0, .int .i64 0, .int .i64 tb, .int .u32 (tg : Int), .int .u32 (ts : Int), .int .u64 (tx : Int), .slice none 0 0, .string n3, .bool false, .int .i64 0, .int .i64 0, .int .u32 0]) rfl
  clear hr3
  try clear c0
  have c0 : World.cell? _ ⟨(w.heap.size + 3), 0, none⟩ = some (.int .i64 10) := hs3.cell 0 rfl
  go_wp2_with fail
  refine (k4 _ hs3.pp).mono ?_
  rintro e w4 ⟨rfl, hp, hb⟩
  have hr4 := hs3.call hp hb
  clear hp hb hs3 k4 c0
  have c12 : w4.cell? ⟨(w.heap.size + 3), 12, none⟩ = some (.bool false) := hr4.cell 12 rfl
  have f12 : w4.frozen? ⟨(w.heap.size + 3), 12, none⟩ = false := hr4.frozen 12
  have hs4 := hr4.set 12 (.bool n4) (cs' := #[.int .i64 10, .int .u64 0, .int .i64 0, .int .i64 0, .int .i64 0, .int .i64 0, .int .i64 tb, .int .u32 (tg : Int), .int .u32 (ts : Int), .int .u64 (tx : Int), .slice none 0 0, .string n3, .bool n4, .int .i64 0, .int .i64 0, .int .u32 0]) rfl
  clear hr4
  obtain ⟨bb, hbb⟩ : ∃ x, x = (ba || bf) := ⟨_, rfl⟩
  rw [← hbb] at hs4
  have HBAD := Lib.hid (show bad P = (bb || decide (50 < n5)) by rw [HBAD.out, ← Bool.or_assoc, ← hbb])
  clear hbb
  try clear c0
  have c0 : World.cell? _ ⟨(w.heap.size + 3), 0, none⟩ = some (.int .i64 10) := hs4.cell 0 rfl
  have q5 := hs4.pp.c0
  go_wp2_with fail
  clear q5
  refine (k5 _ hs4.pp.rd).mono ?_
  rintro e w5 ⟨rfl, hr, hb⟩
  have hr5 := hs4.read hr hb b6
  clear hr hb hs4 k5
  have c13 : w5.cell? ⟨(w.heap.size + 3), 13, none⟩ = some (.int .i64 0) := hr5.cell 13 rfl
  have f13 : w5.frozen? ⟨(w.heap.size + 3), 13, none⟩ = false := hr5.frozen 13
  have hs5 := hr5.set 13 (.int .i64 (n5 : Int)) (cs' := #[.int .i64 10, .int .u64 0, .int .i64 0, .int .i64 0, .int .i64 0, .int .i64 0, .int .i64 tb, .int .u32 (tg : Int), .int .u32 (ts : Int), .int .u64 (tx : Int), .slice none 0 0, .string n3, .bool n4, .int .i64 (n5 : Int), .int .i64 0, .int .u32 0]) rfl
  clear hr5
  have c0 : World.cell? _ ⟨(w.heap.size + 3), 0, none⟩ = some (.int .i64 10) := hs5.cell 0 rfl
  have cb : World.cell? _ ⟨(w.heap.size + 3), 13, none⟩ = some (.int .i64 (n5 : Int)) := hs5.cell 13 rfl
  have q0 := hs5.pp.c0
  have q1 := hs5.pp.c1
  have g1 := hs5.pp.f1
  cases bb
  rotate_left
  · have hsB := hs5.mark true
    clear hs5
    have c0 : World.cell? _ ⟨(w.heap.size + 3), 0, none⟩ = some (.int .i64 10) := hsB.cell 0 rfl
    have q0 := hsB.pp.c0
    have q1 := hsB.pp.c1
    have HNB := Lib.hid (hsB.res)
    have hone : (rzero : Array Value).all (fun x => x.oneCell') = true := by simp [rzero, Value.oneCell']
    have HONE := Lib.hid hone
    have HSZ := Lib.hid (ref_size.trans (show some 16 = some rzero.size from rfl))
    have HLAST := Lib.hid (hsB.last rzero)
    clear hone hsB
    unfold rzero at HNB HONE HSZ HLAST
    go_wp2_with (refine wpList_store_rowTo rfl 39 _ _ rfl rfl w.heap.size #[.int .i64 0, .int .u64 0, .int .i64 0, .int .i64 0, .int .i64 0, .int .i64 0, .int .i64 0, .int .u32 0, .int .u32 0, .int .u64 0, .slice none 0 0, .string ⟨#[]⟩, .bool false, .int .i64 0, .int .i64 0, .int .u32 0] rfl rfl 39 #[.int .i64 0, .int .u64 0, .int .i64 0, .int .i64 0, .int .i64 0, .int .i64 0, .int .i64 0, .int .u32 0, .int .u32 0, .int .u64 0, .slice none 0 0, .string ⟨#[]⟩, .bool false, .int .i64 0, .int .i64 0, .int .u32 0] HNB.out HSZ.out rfl HONE.out ?_)
    refine bodyPost_ret (results_row_tmp rfl _ _ w.heap.size 39 #[.int .i64 0, .int .u64 0, .int .i64 0, .int .i64 0, .int .i64 0, .int .i64 0, .int .i64 0, .int .u32 0, .int .u32 0, .int .u64 0, .slice none 0 0, .string ⟨#[]⟩, .bool false, .int .i64 0, .int .i64 0, .int .u32 0] (0, 0) _ rfl (setRow_heap _ _ _ _ _ _ HNB.out) Try.underlying39 rfl HSZ.out) rfl ?_
    exact ⟨(HLAST.out.2).below (Nat.le_refl _) (fun k hk => by rcases hk with e | e <;> omega), .inr ⟨by rw [HG.out, HBAD.out]; first | rfl | simp, rfl⟩⟩
  by_cases hx0 : 50 < n5
  · have d0 : decide ((50 : Int) < (n5 : Int)) = true := decide_eq_true (by omega)
    have HD0 := Lib.hid (show decide (50 < n5) = true from decide_eq_true hx0)
    have hsB := hs5.mark true
    clear hs5 hx0
    have c0 : World.cell? _ ⟨(w.heap.size + 3), 0, none⟩ = some (.int .i64 10) := hsB.cell 0 rfl
    have q0 := hsB.pp.c0
    have q1 := hsB.pp.c1
    have HNB := Lib.hid (hsB.res)
    have hone : (rzero : Array Value).all (fun x => x.oneCell') = true := by simp [rzero, Value.oneCell']
    have HONE := Lib.hid hone
    have HSZ := Lib.hid (ref_size.trans (show some 16 = some rzero.size from rfl))
    have HLAST := Lib.hid (hsB.last rzero)
    clear hone hsB
    unfold rzero at HNB HONE HSZ HLAST
    go_wp2_with (refine wpList_store_rowTo rfl 39 _ _ rfl rfl w.heap.size #[.int .i64 0, .int .u64 0, .int .i64 0, .int .i64 0, .int .i64 0, .int .i64 0, .int .i64 0, .int .u32 0, .int .u32 0, .int .u64 0, .slice none 0 0, .string ⟨#[]⟩, .bool false, .int .i64 0, .int .i64 0, .int .u32 0] rfl rfl 39 #[.int .i64 0, .int .u64 0, .int .i64 0, .int .i64 0, .int .i64 0, .int .i64 0, .int .i64 0, .int .u32 0, .int .u32 0, .int .u64 0, .slice none 0 0, .string ⟨#[]⟩, .bool false, .int .i64 0, .int .i64 0, .int .u32 0] HNB.out HSZ.out rfl HONE.out ?_)
    refine bodyPost_ret (results_row_tmp rfl _ _ w.heap.size 39 #[.int .i64 0, .int .u64 0, .int .i64 0, .int .i64 0, .int .i64 0, .int .i64 0, .int .i64 0, .int .u32 0, .int .u32 0, .int .u64 0, .slice none 0 0, .string ⟨#[]⟩, .bool false, .int .i64 0, .int .i64 0, .int .u32 0] (0, 0) _ rfl (setRow_heap _ _ _ _ _ _ HNB.out) Try.underlying39 rfl HSZ.out) rfl ?_
    exact ⟨(HLAST.out.2).below (Nat.le_refl _) (fun k hk => by rcases hk with e | e <;> omega), .inr ⟨by rw [HG.out, HBAD.out, HD0.out]; first | rfl | simp, rfl⟩⟩
  have d0 : decide ((50 : Int) < (n5 : Int)) = false := decide_eq_false (by omega)
  have HD0 := Lib.hid (show decide (50 < n5) = false from decide_eq_false hx0)
  have hsB := hs5.mark false
  clear hs5 hx0
  have c0 : World.cell? _ ⟨(w.heap.size + 3), 0, none⟩ = some (.int .i64 10) := hsB.cell 0 rfl
  have q0 := hsB.pp.c0
  have q1 := hsB.pp.c1
  have q2 := Rf.short hsB.pp.rd
  obtain ⟨sh, hsh⟩ : ∃ s, s = p5.short := ⟨_, rfl⟩
  rw [← hsh] at q2
  have HSH := Lib.hid hsh
  have kleft := refLeft_any (w.heap.size + 1) p5.zs p5.short _ hsB.pp.rd
  have HKL := Lib.hid kleft
  clear hsh kleft
  cases sh
  rotate_left
  · have HNB := Lib.hid (hsB.res)
    have hone : (rzero : Array Value).all (fun x => x.oneCell') = true := by simp [rzero, Value.oneCell']
    have HONE := Lib.hid hone
    have HSZ := Lib.hid (ref_size.trans (show some 16 = some rzero.size from rfl))
    have HLAST := Lib.hid (hsB.last rzero)
    clear hone hsB HKL
    unfold rzero at HNB HONE HSZ HLAST
    go_wp2_with (refine wpList_store_rowTo rfl 39 _ _ rfl rfl w.heap.size #[.int .i64 0, .int .u64 0, .int .i64 0, .int .i64 0, .int .i64 0, .int .i64 0, .int .i64 0, .int .u32 0, .int .u32 0, .int .u64 0, .slice none 0 0, .string ⟨#[]⟩, .bool false, .int .i64 0, .int .i64 0, .int .u32 0] rfl rfl 39 #[.int .i64 0, .int .u64 0, .int .i64 0, .int .i64 0, .int .i64 0, .int .i64 0, .int .i64 0, .int .u32 0, .int .u32 0, .int .u64 0, .slice none 0 0, .string ⟨#[]⟩, .bool false, .int .i64 0, .int .i64 0, .int .u32 0] HNB.out HSZ.out rfl HONE.out ?_)
    refine bodyPost_ret (results_row_tmp rfl _ _ w.heap.size 39 #[.int .i64 0, .int .u64 0, .int .i64 0, .int .i64 0, .int .i64 0, .int .i64 0, .int .i64 0, .int .u32 0, .int .u32 0, .int .u64 0, .slice none 0 0, .string ⟨#[]⟩, .bool false, .int .i64 0, .int .i64 0, .int .u32 0] (0, 0) _ rfl (setRow_heap _ _ _ _ _ _ HNB.out) Try.underlying39 rfl HSZ.out) rfl ?_
    exact ⟨(HLAST.out.2).below (Nat.le_refl _) (fun k hk => by rcases hk with e | e <;> omega), .inr ⟨by rw [HG.out, HBAD.out, HD0.out, ← HSH.out]; simp, rfl⟩⟩
  go_wp2_with fail
  refine HKL.out.mono ?_
  rintro e wL ⟨rfl, nL, rfl⟩
  have hsL := hsB.new (But.drewN (But.refl (fun _ => False) _) nL)
  clear hsB HKL q0 q1 q2
  by_cases hz : p5.zs.length = 0
  rotate_left
  · have hz1 : decide ((0 : Int) < (p5.zs.length : Int)) = true := decide_eq_true (by omega)
    have hpos : 0 < p5.zs.length := by omega
    have hposI : (0 : Int) < (p5.zs.length : Int) := by omega
    have HZN := Lib.hid (show decide (p5.zs = []) = false from decide_eq_false (fun e => hz (by rw [e]; rfl)))
    clear hz
    have HNB := Lib.hid (hsL.res)
    have hone : (rzero : Array Value).all (fun x => x.oneCell') = true := by simp [rzero, Value.oneCell']
    have HONE := Lib.hid hone
    have HSZ := Lib.hid (ref_size.trans (show some 16 = some rzero.size from rfl))
    have HLAST := Lib.hid (hsL.last rzero)
    clear hone hsL
    unfold rzero at HNB HONE HSZ HLAST
    go_wp2_with (refine wpList_store_rowTo rfl 39 _ _ rfl rfl w.heap.size #[.int .i64 0, .int .u64 0, .int .i64 0, .int .i64 0, .int .i64 0, .int .i64 0, .int .i64 0, .int .u32 0, .int .u32 0, .int .u64 0, .slice none 0 0, .string ⟨#[]⟩, .bool false, .int .i64 0, .int .i64 0, .int .u32 0] rfl rfl 39 #[.int .i64 0, .int .u64 0, .int .i64 0, .int .i64 0, .int .i64 0, .int .i64 0, .int .i64 0, .int .u32 0, .int .u32 0, .int .u64 0, .slice none 0 0, .string ⟨#[]⟩, .bool false, .int .i64 0, .int .i64 0, .int .u32 0] HNB.out HSZ.out rfl HONE.out ?_)
    refine bodyPost_ret (results_row_tmp rfl _ _ w.heap.size 39 #[.int .i64 0, .int .u64 0, .int .i64 0, .int .i64 0, .int .i64 0, .int .i64 0, .int .i64 0, .int .u32 0, .int .u32 0, .int .u64 0, .slice none 0 0, .string ⟨#[]⟩, .bool false, .int .i64 0, .int .i64 0, .int .u32 0] (0, 0) _ rfl (setRow_heap _ _ _ _ _ _ HNB.out) Try.underlying39 rfl HSZ.out) rfl ?_
    exact ⟨(HLAST.out.2).below (Nat.le_refl _) (fun k hk => by rcases hk with e | e <;> omega), .inr ⟨by rw [HG.out, HBAD.out, HD0.out, HZN.out]; simp, rfl⟩⟩
  have hz1 : decide ((0 : Int) < (p5.zs.length : Int)) = false := decide_eq_false (by omega)
  have HZN := Lib.hid (show decide (p5.zs = []) = true from decide_eq_true (List.eq_nil_of_length_eq_zero hz))
  rw [hz]
  clear hz hz1
  have HBX := Lib.hid (show _ = _ from hsL.box)
  have HRX := Lib.hid (show _ = _ from hsL.res)
  have HLAST := Lib.hid (hsL.last #[.int .i64 10, .int .u64 0, .int .i64 0, .int .i64 0, .int .i64 0, .int .i64 0, .int .i64 tb, .int .u32 (tg : Int), .int .u32 (ts : Int), .int .u64 (tx : Int), .slice none 0 0, .string n3, .bool n4, .int .i64 (n5 : Int), .int .i64 0, .int .u32 0])

  clear hsL
  have hone : (#[.int .i64 10, .int .u64 0, .int .i64 0, .int .i64 0, .int .i64 0, .int .i64 0, .int .i64 tb, .int .u32 (tg : Int), .int .u32 (ts : Int), .int .u64 (tx : Int), .slice none 0 0, .string n3, .bool n4, .int .i64 (n5 : Int), .int .i64 0, .int .u32 0] : Array Value).all (fun x => x.oneCell') = true := by simp [Value.oneCell']
  have HONE := Lib.hid hone
  clear hone
  have HOLD := Lib.hid (show (rzero : Array Value).size = (#[.int .i64 10, .int .u64 0, .int .i64 0, .int .i64 0, .int .i64 0, .int .i64 0, .int .i64 tb, .int .u32 (tg : Int), .int .u32 (ts : Int), .int .u64 (tx : Int), .slice none 0 0, .string n3, .bool n4, .int .i64 (n5 : Int), .int .i64 0, .int .u32 0] : Array Value).size by simp [rzero])
  have HSZ := Lib.hid (ref_size.trans (show some 16 = some (#[.int .i64 10, .int .u64 0, .int .i64 0, .int .i64 0, .int .i64 0, .int .i64 0, .int .i64 tb, .int .u32 (tg : Int), .int .u32 (ts : Int), .int .u64 (tx : Int), .slice none 0 0, .string n3, .bool n4, .int .i64 (n5 : Int), .int .i64 0, .int .u32 0] : Array Value).size by simp))
  go_wp2_with (first
    | (refine wpList_load_row rfl 39 _ rfl (w.heap.size + 3) rfl 39 _ (0, 0) _ HBX.out Try.underlying39 rfl HSZ.out ?_)
    | (refine wpList_store_rowTo rfl 39 _ _ rfl rfl w.heap.size #[.int .i64 10, .int .u64 0, .int .i64 0, .int .i64 0, .int .i64 0, .int .i64 0, .int .i64 tb, .int .u32 (tg : Int), .int .u32 (ts : Int), .int .u64 (tx : Int), .slice none 0 0, .string n3, .bool n4, .int .i64 (n5 : Int), .int .i64 0, .int .u32 0] rfl rfl 39 rzero HRX.out HSZ.out HOLD.out HONE.out ?_))
  refine bodyPost_ret (results_row_tmp rfl _ _ w.heap.size 39 #[.int .i64 10, .int .u64 0, .int .i64 0, .int .i64 0, .int .i64 0, .int .i64 0, .int .i64 tb, .int .u32 (tg : Int), .int .u32 (ts : Int), .int .u64 (tx : Int), .slice none 0 0, .string n3, .bool n4, .int .i64 (n5 : Int), .int .i64 0, .int .u32 0] (0, 0) _ rfl (setRow_heap _ _ _ _ _ _ HRX.out) Try.underlying39 rfl HSZ.out) rfl ?_
  have hwb : Below w.heap.size w _ := (HLAST.out.2).below (Nat.le_refl _) (fun k hk => by rcases hk with e | e <;> omega)
  exact ⟨hwb, .inl ⟨by rw [HG.out, HBAD.out, HD0.out, ← HSH.out, HZN.out]; rfl, _, rfl, OpsAt.nil _⟩⟩
end Go.Proofs.Ytbdbbnpkekcefaa.Cmd

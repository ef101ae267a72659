/- What the document's Parse answers, a class of tags each. -/
import Derived.Test.YtbdbbnpkekcefaaCmdRKit
namespace Go.Proofs.Ytbdbbnpkekcefaa.Cmd
open Go.Proofs.Ytbdbbnpkekcefaa.Mem Go.Proofs.Ytbdbbnpkekcefaa.Pack
open Go.ChangeShapes Go.WideShapes Go.ChangeAt Go.RowKit
set_option linter.unusedVariables false
set_option linter.unusedSimpArgs false

set_option maxRecDepth 100000 in
set_option maxHeartbeats 8000000 in
theorem rparse_c2 (a : Option Addr) (cap : Nat) (zs : List Int) (w : World) (h : Row w a zs.length zs) (hn : a = none → cap = 0) (hlc : zs.length ≤ cap) (hcm : cap ≤ maxLen) (hl : zs.length ≤ 1073741824) (P : Pos) (hP : P = ⟨zs, false⟩) (hk : (P.num 1 : Int) = 2) :
    Calls Try.prog 8 #[.slice a zs.length cap] w fun e w' => RParseIs zs w e w' := by
  have b1 : Bytes P.zs := by rw [hP]; exact h.2.1
  have hs0 := rparse_start w a cap zs h hn hlc hcm hl
  rw [← hP] at hs0
  have l1 := num1_lt b1
  have k1 := fun w' => rfP_number (w.heap.size + 1) w.heap.size P 1 (by omega) (by omega) w'
  have hgd : good zs = (!bad P && (!(endRq P).short && decide ((endRq P).zs = []))) := by rw [hP]; rfl
  rw [hk] at k1
  obtain ⟨p1, hp1⟩ : ∃ x, x = P.skip 1 := ⟨_, rfl⟩
  have b2 : Bytes p1.zs := by rw [hp1]; exact skip_bytes b1 1
  rw [← hp1] at k1
  have l2 := num8_lt b2
  have k2 := fun u => rfP_number (w.heap.size + 1) w.heap.size p1 8 (by omega) (by omega) u
  obtain ⟨n2, hn2⟩ : ∃ n, n = p1.num 8 := ⟨_, rfl⟩
  obtain ⟨p2, hp2⟩ : ∃ x, x = p1.skip 8 := ⟨_, rfl⟩
  have b3 : Bytes p2.zs := by rw [hp2]; exact skip_bytes b2 8
  rw [← hn2] at k2 l2
  rw [← hp2] at k2
  have l3 := num1_lt b3
  have k3 := fun u => rfP_number (w.heap.size + 1) w.heap.size p2 1 (by omega) (by omega) u
  obtain ⟨n3, hn3⟩ : ∃ n, n = p2.num 1 := ⟨_, rfl⟩
  obtain ⟨p3, hp3⟩ : ∃ x, x = p2.skip 1 := ⟨_, rfl⟩
  have b4 : Bytes p3.zs := by rw [hp3]; exact skip_bytes b3 1
  rw [← hn3] at k3 l3
  rw [← hp3] at k3
  have hkc : (P.num 1 : Int) = 2 := by omega
  have hbad : bad P = decide (63 < n3) := by
    unfold bad
    rw [← hp1, badBody_c2 hkc]
    all_goals try rw [hk]
    all_goals try simp only [← hn2, ← hp2, ← hn3, ← hp3]
  have hend : endRq P = p3 := by
    unfold endRq
    rw [← hp1, endBody_c2 hkc]
    all_goals try rw [hk]
    all_goals try simp only [← hp2, ← hp3]
  have hq : readRq P = ⟨2, n2, (n3 : Int), zeroQuo, zeroTok, [], nothing, false, 0, 0, 0⟩ := by
    unfold readRq
    rw [← hp1, rdBody_c2 hkc, hk]
    all_goals try simp only [← hn2, ← hp2, ← hn3, ← hp3]
  rw [hend] at hgd
  unfold RParseIs
  rw [← hP, hq]
  have HG := Lib.hid hgd
  have HBAD := Lib.hid hbad
  clear h hn hlc hcm hl hP hq hkc hgd hbad hend hp1 hn2 hp2 hn3 hp3  
  skip
  simp only [rv, rcells, zeroQuo, zeroTok, nothing, zeroRq]
  unfold rzero at hs0
  go_enter Try.func8, Try.ntmps8
  have q0 := hs0.pp.c0
  go_wp2_with fail
  clear q0
  refine (k1 _ hs0.pp.rd).mono ?_
  rintro e w1 ⟨rfl, hr, hb⟩
  have hr1 := hs0.read hr hb b2
  clear hr hb hs0 k1
  have cA : w1.cell? ⟨(w.heap.size + 3), 0, none⟩ = some (.int .i64 0) := hr1.cell 0 rfl
  have fA : w1.frozen? ⟨(w.heap.size + 3), 0, none⟩ = false := hr1.frozen 0
  have hs1 := hr1.set 0 (.int .i64 2) (cs' := #[.int .i64 2, .int .u64 0, .int .i64 0, .int .i64 0, .int .i64 0, .int .i64 0, .int .i64 0, .int .u32 0, .int .u32 0, .int .u64 0, .slice none 0 0, .string ⟨#[]⟩, .bool false, .int .i64 0, .int .i64 0, .int .u32 0]) rfl
  clear hr1
  have c0 : World.cell? _ ⟨(w.heap.size + 3), 0, none⟩ = some (.int .i64 2) := hs1.cell 0 rfl
  have q2 := hs1.pp.c0
  go_wp2_with fail
  clear q2
  refine (k2 _ hs1.pp.rd).mono ?_
  rintro e w2 ⟨rfl, hr, hb⟩
  have hr2 := hs1.read hr hb b3
  clear hr hb hs1 k2
  have c1 : w2.cell? ⟨(w.heap.size + 3), 1, none⟩ = some (.int .u64 0) := hr2.cell 1 rfl
  have f1 : w2.frozen? ⟨(w.heap.size + 3), 1, none⟩ = false := hr2.frozen 1
  have hs2 := hr2.set 1 (.int .u64 (n2 : Int)) (cs' := #[.int .i64 2, .int .u64 (n2 : Int), .int .i64 0, .int .i64 0, .int .i64 0, .int .i64 0, .int .i64 0, .int .u32 0, .int .u32 0, .int .u64 0, .slice none 0 0, .string ⟨#[]⟩, .bool false, .int .i64 0, .int .i64 0, .int .u32 0]) rfl
  clear hr2
  try clear c0
  have c0 : World.cell? _ ⟨(w.heap.size + 3), 0, none⟩ = some (.int .i64 2) := hs2.cell 0 rfl
  have q3 := hs2.pp.c0
  go_wp2_with fail
  clear q3
  refine (k3 _ hs2.pp.rd).mono ?_
  rintro e w3 ⟨rfl, hr, hb⟩
  have hr3 := hs2.read hr hb b4
  clear hr hb hs2 k3
  have c2 : w3.cell? ⟨(w.heap.size + 3), 2, none⟩ = some (.int .i64 0) := hr3.cell 2 rfl
  have f2 : w3.frozen? ⟨(w.heap.size + 3), 2, none⟩ = false := hr3.frozen 2
  have hs3 := hr3.set 2 (.int .i64 (n3 : Int)) (cs' := #[.int .i64 2, .int .u64 (n2 : Int), .int .i64 (n3 : Int), .int .i64 0, .int .i64 0, .int .i64 0, .int .i64 0, .int .u32 0, .int .u32 0, .int .u64 0, .slice none 0 0, .string ⟨#[]⟩, .bool false, .int .i64 0, .int .i64 0, .int .u32 0]) rfl
  clear hr3
  have c0 : World.cell? _ ⟨(w.heap.size + 3), 0, none⟩ = some (.int .i64 2) := hs3.cell 0 rfl
  have cb : World.cell? _ ⟨(w.heap.size + 3), 2, none⟩ = some (.int .i64 (n3 : Int)) := hs3.cell 2 rfl
  have q0 := hs3.pp.c0
  have q1 := hs3.pp.c1
  have g1 := hs3.pp.f1
  by_cases hx0 : 63 < n3
  · have d0 : decide ((63 : Int) < (n3 : Int)) = true := decide_eq_true (by omega)
    have HD0 := Lib.hid (show decide (63 < n3) = true from decide_eq_true hx0)
    have hsB := hs3.mark true
    clear hs3 hx0
    have c0 : World.cell? _ ⟨(w.heap.size + 3), 0, none⟩ = some (.int .i64 2) := hsB.cell 0 rfl
    have q0 := hsB.pp.c0
    have q1 := hsB.pp.c1
    have HNB := Lib.hid (hsB.res)
    have hone : (rzero : Array Value).all (fun x => x.oneCell') = true := by simp [rzero, Value.oneCell']
    have HONE := Lib.hid hone
    have HSZ := Lib.hid (ref_size.trans (show some 16 = some rzero.size from rfl))
    have HLAST := Lib.hid (hsB.last rzero)
    clear hone hsB
    unfold rzero at HNB HONE HSZ HLAST
    go_wp2_with (refine wpList_store_rowTo rfl 39 _ _ rfl rfl w.heap.size #[.int .i64 0, .int .u64 0, .int .i64 0, .int .i64 0, .int .i64 0, .int .i64 0, .int .i64 0, .int .u32 0, .int .u32 0, .int .u64 0, .slice none 0 0, .string ⟨#[]⟩, .bool false, .int .i64 0, .int .i64 0, .int .u32 0] rfl rfl 39 #[.int .i64 0, .int .u64 0, .int .i64 0, .int .i64 0, .int .i64 0, .int .i64 0, .int .i64 0, .int .u32 0, .int .u32 0, .int .u64 0, .slice none 0 0, .string ⟨#[]⟩, .bool false, .int .i64 0, .int .i64 0, .int .u32 0] HNB.out HSZ.out rfl HONE.out ?_)
    refine bodyPost_ret (results_row_tmp rfl _ _ w.heap.size 39 #[.int .i64 0, .int .u64 0, .int .i64 0, .int .i64 0, .int .i64 0, .int .i64 0, .int .i64 0, .int .u32 0, .int .u32 0, .int .u64 0, .slice none 0 0, .string ⟨#[]⟩, .bool false, .int .i64 0, .int .i64 0, .int .u32 0] (0, 0) _ rfl (setRow_heap _ _ _ _ _ _ HNB.out) Try.underlying39 rfl HSZ.out) rfl ?_
    exact ⟨(HLAST.out.2).below (Nat.le_refl _) (fun k hk => by rcases hk with e | e <;> omega), .inr ⟨by rw [HG.out, HBAD.out, HD0.out]; first | rfl | simp, rfl⟩⟩
  have d0 : decide ((63 : Int) < (n3 : Int)) = false := decide_eq_false (by omega)
  have HD0 := Lib.hid (show decide (63 < n3) = false from decide_eq_false hx0)
  clear hx0
  have hsB := hs3.mark false
  clear hs3
  have c0 : World.cell? _ ⟨(w.heap.size + 3), 0, none⟩ = some (.int .i64 2) := hsB.cell 0 rfl
  have q0 := hsB.pp.c0
  have q1 := hsB.pp.c1
  have q2 := Rf.short hsB.pp.rd
  obtain ⟨sh, hsh⟩ : ∃ s, s = p3.short := ⟨_, rfl⟩
  rw [← hsh] at q2
  have HSH := Lib.hid hsh
  have kleft := refLeft_any (w.heap.size + 1) p3.zs p3.short _ hsB.pp.rd
  have HKL := Lib.hid kleft
  clear hsh kleft
  cases sh
  rotate_left
  · have HNB := Lib.hid (hsB.res)
    have hone : (rzero : Array Value).all (fun x => x.oneCell') = true := by simp [rzero, Value.oneCell']
    have HONE := Lib.hid hone
    have HSZ := Lib.hid (ref_size.trans (show some 16 = some rzero.size from rfl))
    have HLAST := Lib.hid (hsB.last rzero)
    clear hone hsB HKL
    unfold rzero at HNB HONE HSZ HLAST
    go_wp2_with (refine wpList_store_rowTo rfl 39 _ _ rfl rfl w.heap.size #[.int .i64 0, .int .u64 0, .int .i64 0, .int .i64 0, .int .i64 0, .int .i64 0, .int .i64 0, .int .u32 0, .int .u32 0, .int .u64 0, .slice none 0 0, .string ⟨#[]⟩, .bool false, .int .i64 0, .int .i64 0, .int .u32 0] rfl rfl 39 #[.int .i64 0, .int .u64 0, .int .i64 0, .int .i64 0, .int .i64 0, .int .i64 0, .int .i64 0, .int .u32 0, .int .u32 0, .int .u64 0, .slice none 0 0, .string ⟨#[]⟩, .bool false, .int .i64 0, .int .i64 0, .int .u32 0] HNB.out HSZ.out rfl HONE.out ?_)
    refine bodyPost_ret (results_row_tmp rfl _ _ w.heap.size 39 #[.int .i64 0, .int .u64 0, .int .i64 0, .int .i64 0, .int .i64 0, .int .i64 0, .int .i64 0, .int .u32 0, .int .u32 0, .int .u64 0, .slice none 0 0, .string ⟨#[]⟩, .bool false, .int .i64 0, .int .i64 0, .int .u32 0] (0, 0) _ rfl (setRow_heap _ _ _ _ _ _ HNB.out) Try.underlying39 rfl HSZ.out) rfl ?_
    exact ⟨(HLAST.out.2).below (Nat.le_refl _) (fun k hk => by rcases hk with e | e <;> omega), .inr ⟨by rw [HG.out, HBAD.out, HD0.out, ← HSH.out]; simp, rfl⟩⟩
  go_wp2_with fail
  refine HKL.out.mono ?_
  rintro e wL ⟨rfl, nL, rfl⟩
  have hsL := hsB.new (But.drewN (But.refl (fun _ => False) _) nL)
  clear hsB HKL q0 q1 q2
  by_cases hz : p3.zs.length = 0
  rotate_left
  · have hz1 : decide ((0 : Int) < (p3.zs.length : Int)) = true := decide_eq_true (by omega)
    have hpos : 0 < p3.zs.length := by omega
    have hposI : (0 : Int) < (p3.zs.length : Int) := by omega
    have HZN := Lib.hid (show decide (p3.zs = []) = false from decide_eq_false (fun e => hz (by rw [e]; rfl)))
    clear hz
    have HNB := Lib.hid (hsL.res)
    have hone : (rzero : Array Value).all (fun x => x.oneCell') = true := by simp [rzero, Value.oneCell']
    have HONE := Lib.hid hone
    have HSZ := Lib.hid (ref_size.trans (show some 16 = some rzero.size from rfl))
    have HLAST := Lib.hid (hsL.last rzero)
    clear hone hsL
    unfold rzero at HNB HONE HSZ HLAST
    go_wp2_with (refine wpList_store_rowTo rfl 39 _ _ rfl rfl w.heap.size #[.int .i64 0, .int .u64 0, .int .i64 0, .int .i64 0, .int .i64 0, .int .i64 0, .int .i64 0, .int .u32 0, .int .u32 0, .int .u64 0, .slice none 0 0, .string ⟨#[]⟩, .bool false, .int .i64 0, .int .i64 0, .int .u32 0] rfl rfl 39 #[.int .i64 0, .int .u64 0, .int .i64 0, .int .i64 0, .int .i64 0, .int .i64 0, .int .i64 0, .int .u32 0, .int .u32 0, .int .u64 0, .slice none 0 0, .string ⟨#[]⟩, .bool false, .int .i64 0, .int .i64 0, .int .u32 0] HNB.out HSZ.out rfl HONE.out ?_)
    refine bodyPost_ret (results_row_tmp rfl _ _ w.heap.size 39 #[.int .i64 0, .int .u64 0, .int .i64 0, .int .i64 0, .int .i64 0, .int .i64 0, .int .i64 0, .int .u32 0, .int .u32 0, .int .u64 0, .slice none 0 0, .string ⟨#[]⟩, .bool false, .int .i64 0, .int .i64 0, .int .u32 0] (0, 0) _ rfl (setRow_heap _ _ _ _ _ _ HNB.out) Try.underlying39 rfl HSZ.out) rfl ?_
    exact ⟨(HLAST.out.2).below (Nat.le_refl _) (fun k hk => by rcases hk with e | e <;> omega), .inr ⟨by rw [HG.out, HBAD.out, HD0.out, HZN.out]; simp, rfl⟩⟩
  have hz1 : decide ((0 : Int) < (p3.zs.length : Int)) = false := decide_eq_false (by omega)
  have HZN := Lib.hid (show decide (p3.zs = []) = true from decide_eq_true (List.eq_nil_of_length_eq_zero hz))
  rw [hz]
  clear hz hz1
  have HBX := Lib.hid (show _ = _ from hsL.box)
  have HRX := Lib.hid (show _ = _ from hsL.res)
  have HLAST := Lib.hid (hsL.last #[.int .i64 2, .int .u64 (n2 : Int), .int .i64 (n3 : Int), .int .i64 0, .int .i64 0, .int .i64 0, .int .i64 0, .int .u32 0, .int .u32 0, .int .u64 0, .slice none 0 0, .string ⟨#[]⟩, .bool false, .int .i64 0, .int .i64 0, .int .u32 0])

  clear hsL
  have hone : (#[.int .i64 2, .int .u64 (n2 : Int), .int .i64 (n3 : Int), .int .i64 0, .int .i64 0, .int .i64 0, .int .i64 0, .int .u32 0, .int .u32 0, .int .u64 0, .slice none 0 0, .string ⟨#[]⟩, .bool false, .int .i64 0, .int .i64 0, .int .u32 0] : Array Value).all (fun x => x.oneCell') = true := by simp [Value.oneCell']
  have HONE := Lib.hid hone
  clear hone
  have HOLD := Lib.hid (show (rzero : Array Value).size = (#[.int .i64 2, .int .u64 (n2 : Int), .int .i64 (n3 : Int), .int .i64 0, .int .i64 0, .int .i64 0, .int .i64 0, .int .u32 0, .int .u32 0, .int .u64 0, .slice none 0 0, .string ⟨#[]⟩, .bool false, .int .i64 0, .int .i64 0, .int .u32 0] : Array Value).size by simp [rzero])
  have HSZ := Lib.hid (ref_size.trans (show some 16 = some (#[.int .i64 2, .int .u64 (n2 : Int), .int .i64 (n3 : Int), .int .i64 0, .int .i64 0, .int .i64 0, .int .i64 0, .int .u32 0, .int .u32 0, .int .u64 0, .slice none 0 0, .string ⟨#[]⟩, .bool false, .int .i64 0, .int .i64 0, .int .u32 0] : Array Value).size by simp))
  go_wp2_with (first
    | (refine wpList_load_row rfl 39 _ rfl (w.heap.size + 3) rfl 39 _ (0, 0) _ HBX.out Try.underlying39 rfl HSZ.out ?_)
    | (refine wpList_store_rowTo rfl 39 _ _ rfl rfl w.heap.size #[.int .i64 2, .int .u64 (n2 : Int), .int .i64 (n3 : Int), .int .i64 0, .int .i64 0, .int .i64 0, .int .i64 0, .int .u32 0, .int .u32 0, .int .u64 0, .slice none 0 0, .string ⟨#[]⟩, .bool false, .int .i64 0, .int .i64 0, .int .u32 0] rfl rfl 39 rzero HRX.out HSZ.out HOLD.out HONE.out ?_))
  refine bodyPost_ret (results_row_tmp rfl _ _ w.heap.size 39 #[.int .i64 2, .int .u64 (n2 : Int), .int .i64 (n3 : Int), .int .i64 0, .int .i64 0, .int .i64 0, .int .i64 0, .int .u32 0, .int .u32 0, .int .u64 0, .slice none 0 0, .string ⟨#[]⟩, .bool false, .int .i64 0, .int .i64 0, .int .u32 0] (0, 0) _ rfl (setRow_heap _ _ _ _ _ _ HRX.out) Try.underlying39 rfl HSZ.out) rfl ?_
  have hwb : Below w.heap.size w _ := (HLAST.out.2).below (Nat.le_refl _) (fun k hk => by rcases hk with e | e <;> omega)
  exact ⟨hwb, .inl ⟨by rw [HG.out, HBAD.out, HD0.out, ← HSH.out, HZN.out]; rfl, _, rfl, OpsAt.nil _⟩⟩
set_option maxRecDepth 100000 in
set_option maxHeartbeats 8000000 in
theorem rparse_c4a (a : Option Addr) (cap : Nat) (zs : List Int) (w : World) (h : Row w a zs.length zs) (hn : a = none → cap = 0) (hlc : zs.length ≤ cap) (hcm : cap ≤ maxLen) (hl : zs.length ≤ 1073741824) (P : Pos) (hP : P = ⟨zs, false⟩) (hk : (P.num 1 : Int) = 4) :
    Calls Try.prog 8 #[.slice a zs.length cap] w fun e w' => RParseIs zs w e w' := by
  have b1 : Bytes P.zs := by rw [hP]; exact h.2.1
  have hs0 := rparse_start w a cap zs h hn hlc hcm hl
  rw [← hP] at hs0
  have l1 := num1_lt b1
  have k1 := fun w' => rfP_number (w.heap.size + 1) w.heap.size P 1 (by omega) (by omega) w'
  have hgd : good zs = (!bad P && (!(endRq P).short && decide ((endRq P).zs = []))) := by rw [hP]; rfl
  rw [hk] at k1
  obtain ⟨p1, hp1⟩ : ∃ x, x = P.skip 1 := ⟨_, rfl⟩
  have b2 : Bytes p1.zs := by rw [hp1]; exact skip_bytes b1 1
  rw [← hp1] at k1
  have l2 := num8_lt b2
  have k2 := fun u => rfP_number (w.heap.size + 1) w.heap.size p1 8 (by omega) (by omega) u
  obtain ⟨n2, hn2⟩ : ∃ n, n = p1.num 8 := ⟨_, rfl⟩
  obtain ⟨p2, hp2⟩ : ∃ x, x = p1.skip 8 := ⟨_, rfl⟩
  have b3 : Bytes p2.zs := by rw [hp2]; exact skip_bytes b2 8
  rw [← hn2] at k2 l2
  rw [← hp2] at k2
  have hkc : (P.num 1 : Int) = 4 ∨ (P.num 1 : Int) = 5 := by omega
  have hbad : bad P = false := by
    unfold bad
    rw [← hp1, badBody_c4 hkc]
    all_goals try rw [hk]
    all_goals try simp only [← hn2, ← hp2]
  have hend : endRq P = p2 := by
    unfold endRq
    rw [← hp1, endBody_c4 hkc]
    all_goals try rw [hk]
    all_goals try simp only [← hp2]
  have hq : readRq P = ⟨4, n2, 0, zeroQuo, zeroTok, [], nothing, false, 0, 0, 0⟩ := by
    unfold readRq
    rw [← hp1, rdBody_c4 hkc, hk]
    all_goals try simp only [← hn2, ← hp2]
  rw [hend] at hgd
  unfold RParseIs
  rw [← hP, hq]
  have HG := Lib.hid hgd
  have HBAD := Lib.hid hbad
  clear h hn hlc hcm hl hP hq hkc hgd hbad hend hp1 hn2 hp2  
  skip
  simp only [rv, rcells, zeroQuo, zeroTok, nothing, zeroRq]
  unfold rzero at hs0
  go_enter Try.func8, Try.ntmps8
  have q0 := hs0.pp.c0
  go_wp2_with fail
  clear q0
  refine (k1 _ hs0.pp.rd).mono ?_
  rintro e w1 ⟨rfl, hr, hb⟩
  have hr1 := hs0.read hr hb b2
  clear hr hb hs0 k1
  have cA : w1.cell? ⟨(w.heap.size + 3), 0, none⟩ = some (.int .i64 0) := hr1.cell 0 rfl
  have fA : w1.frozen? ⟨(w.heap.size + 3), 0, none⟩ = false := hr1.frozen 0
  have hs1 := hr1.set 0 (.int .i64 4) (cs' := #[.int .i64 4, .int .u64 0, .int .i64 0, .int .i64 0, .int .i64 0, .int .i64 0, .int .i64 0, .int .u32 0, .int .u32 0, .int .u64 0, .slice none 0 0, .string ⟨#[]⟩, .bool false, .int .i64 0, .int .i64 0, .int .u32 0]) rfl
  clear hr1
  have c0 : World.cell? _ ⟨(w.heap.size + 3), 0, none⟩ = some (.int .i64 4) := hs1.cell 0 rfl
  have q2 := hs1.pp.c0
  go_wp2_with fail
  clear q2
  refine (k2 _ hs1.pp.rd).mono ?_
  rintro e w2 ⟨rfl, hr, hb⟩
  have hr2 := hs1.read hr hb b3
  clear hr hb hs1 k2
  have c1 : w2.cell? ⟨(w.heap.size + 3), 1, none⟩ = some (.int .u64 0) := hr2.cell 1 rfl
  have f1 : w2.frozen? ⟨(w.heap.size + 3), 1, none⟩ = false := hr2.frozen 1
  have hs2 := hr2.set 1 (.int .u64 (n2 : Int)) (cs' := #[.int .i64 4, .int .u64 (n2 : Int), .int .i64 0, .int .i64 0, .int .i64 0, .int .i64 0, .int .i64 0, .int .u32 0, .int .u32 0, .int .u64 0, .slice none 0 0, .string ⟨#[]⟩, .bool false, .int .i64 0, .int .i64 0, .int .u32 0]) rfl
  clear hr2
  have c0 : World.cell? _ ⟨(w.heap.size + 3), 0, none⟩ = some (.int .i64 4) := hs2.cell 0 rfl
  have q0 := hs2.pp.c0
  have q1 := hs2.pp.c1
  have q2 := Rf.short hs2.pp.rd
  obtain ⟨sh, hsh⟩ : ∃ s, s = p2.short := ⟨_, rfl⟩
  rw [← hsh] at q2
  have HSH := Lib.hid hsh
  have kleft := refLeft_any (w.heap.size + 1) p2.zs p2.short _ hs2.pp.rd
  have HKL := Lib.hid kleft
  clear hsh kleft
  cases sh
  rotate_left
  · have HNB := Lib.hid (hs2.res)
    have hone : (rzero : Array Value).all (fun x => x.oneCell') = true := by simp [rzero, Value.oneCell']
    have HONE := Lib.hid hone
    have HSZ := Lib.hid (ref_size.trans (show some 16 = some rzero.size from rfl))
    have HLAST := Lib.hid (hs2.last rzero)
    clear hone hs2 HKL
    unfold rzero at HNB HONE HSZ HLAST
    go_wp2_with (refine wpList_store_rowTo rfl 39 _ _ rfl rfl w.heap.size #[.int .i64 0, .int .u64 0, .int .i64 0, .int .i64 0, .int .i64 0, .int .i64 0, .int .i64 0, .int .u32 0, .int .u32 0, .int .u64 0, .slice none 0 0, .string ⟨#[]⟩, .bool false, .int .i64 0, .int .i64 0, .int .u32 0] rfl rfl 39 #[.int .i64 0, .int .u64 0, .int .i64 0, .int .i64 0, .int .i64 0, .int .i64 0, .int .i64 0, .int .u32 0, .int .u32 0, .int .u64 0, .slice none 0 0, .string ⟨#[]⟩, .bool false, .int .i64 0, .int .i64 0, .int .u32 0] HNB.out HSZ.out rfl HONE.out ?_)
    refine bodyPost_ret (results_row_tmp rfl _ _ w.heap.size 39 #[.int .i64 0, .int .u64 0, .int .i64 0, .int .i64 0, .int .i64 0, .int .i64 0, .int .i64 0, .int .u32 0, .int .u32 0, .int .u64 0, .slice none 0 0, .string ⟨#[]⟩, .bool false, .int .i64 0, .int .i64 0, .int .u32 0] (0, 0) _ rfl (setRow_heap _ _ _ _ _ _ HNB.out) Try.underlying39 rfl HSZ.out) rfl ?_
    exact ⟨(HLAST.out.2).below (Nat.le_refl _) (fun k hk => by rcases hk with e | e <;> omega), .inr ⟨by rw [HG.out, HBAD.out, ← HSH.out]; simp, rfl⟩⟩
  go_wp2_with fail
  refine HKL.out.mono ?_
  rintro e wL ⟨rfl, nL, rfl⟩
  have hsL := hs2.new (But.drewN (But.refl (fun _ => False) _) nL)
  clear hs2 HKL q0 q1 q2
  by_cases hz : p2.zs.length = 0
  rotate_left
  · have hz1 : decide ((0 : Int) < (p2.zs.length : Int)) = true := decide_eq_true (by omega)
    have hpos : 0 < p2.zs.length := by omega
    have hposI : (0 : Int) < (p2.zs.length : Int) := by omega
    have HZN := Lib.hid (show decide (p2.zs = []) = false from decide_eq_false (fun e => hz (by rw [e]; rfl)))
    clear hz
    have HNB := Lib.hid (hsL.res)
    have hone : (rzero : Array Value).all (fun x => x.oneCell') = true := by simp [rzero, Value.oneCell']
    have HONE := Lib.hid hone
    have HSZ := Lib.hid (ref_size.trans (show some 16 = some rzero.size from rfl))
    have HLAST := Lib.hid (hsL.last rzero)
    clear hone hsL
    unfold rzero at HNB HONE HSZ HLAST
    go_wp2_with (refine wpList_store_rowTo rfl 39 _ _ rfl rfl w.heap.size #[.int .i64 0, .int .u64 0, .int .i64 0, .int .i64 0, .int .i64 0, .int .i64 0, .int .i64 0, .int .u32 0, .int .u32 0, .int .u64 0, .slice none 0 0, .string ⟨#[]⟩, .bool false, .int .i64 0, .int .i64 0, .int .u32 0] rfl rfl 39 #[.int .i64 0, .int .u64 0, .int .i64 0, .int .i64 0, .int .i64 0, .int .i64 0, .int .i64 0, .int .u32 0, .int .u32 0, .int .u64 0, .slice none 0 0, .string ⟨#[]⟩, .bool false, .int .i64 0, .int .i64 0, .int .u32 0] HNB.out HSZ.out rfl HONE.out ?_)
    refine bodyPost_ret (results_row_tmp rfl _ _ w.heap.size 39 #[.int .i64 0, .int .u64 0, .int .i64 0, .int .i64 0, .int .i64 0, .int .i64 0, .int .i64 0, .int .u32 0, .int .u32 0, .int .u64 0, .slice none 0 0, .string ⟨#[]⟩, .bool false, .int .i64 0, .int .i64 0, .int .u32 0] (0, 0) _ rfl (setRow_heap _ _ _ _ _ _ HNB.out) Try.underlying39 rfl HSZ.out) rfl ?_
    exact ⟨(HLAST.out.2).below (Nat.le_refl _) (fun k hk => by rcases hk with e | e <;> omega), .inr ⟨by rw [HG.out, HBAD.out, HZN.out]; simp, rfl⟩⟩
  have hz1 : decide ((0 : Int) < (p2.zs.length : Int)) = false := decide_eq_false (by omega)
  have HZN := Lib.hid (show decide (p2.zs = []) = true from decide_eq_true (List.eq_nil_of_length_eq_zero hz))
  rw [hz]
  clear hz hz1
  have HBX := Lib.hid (show _ = _ from hsL.box)
  have HRX := Lib.hid (show _ = _ from hsL.res)
  have HLAST := Lib.hid (hsL.last #[.int .i64 4, .int .u64 (n2 : Int), .int .i64 0, .int .i64 0, .int .i64 0, .int .i64 0, .int .i64 0, .int .u32 0, .int .u32 0, .int .u64 0, .slice none 0 0, .string ⟨#[]⟩, .bool false, .int .i64 0, .int .i64 0, .int .u32 0])

  clear hsL
  have hone : (#[.int .i64 4, .int .u64 (n2 : Int), .int .i64 0, .int .i64 0, .int .i64 0, .int .i64 0, .int .i64 0, .int .u32 0, .int .u32 0, .int .u64 0, .slice none 0 0, .string ⟨#[]⟩, .bool false, .int .i64 0, .int .i64 0, .int .u32 0] : Array Value).all (fun x => x.oneCell') = true := by simp [Value.oneCell']
  have HONE := Lib.hid hone
  clear hone
  have HOLD := Lib.hid (show (rzero : Array Value).size = (#[.int .i64 4, .int .u64 (n2 : Int), .int .i64 0, .int .i64 0, .int .i64 0, .int .i64 0, .int .i64 0, .int .u32 0, .int .u32 0, .int .u64 0, .slice none 0 0, .string ⟨#[]⟩, .bool false, .int .i64 0, .int .i64 0, .int .u32 0] : Array Value).size by simp [rzero])
  have HSZ := Lib.hid (ref_size.trans (show some 16 = some (#[.int .i64 4, .int .u64 (n2 : Int), .int .i64 0, .int .i64 0, .int .i64 0, .int .i64 0, .int .i64 0, .int .u32 0, .int .u32 0, .int .u64 0, .slice none 0 0, .string ⟨#[]⟩, .bool false, .int .i64 0, .int .i64 0, .int .u32 0] : Array Value).size by simp))
  go_wp2_with (first
    | (refine wpList_load_row rfl 39 _ rfl (w.heap.size + 3) rfl 39 _ (0, 0) _ HBX.out Try.underlying39 rfl HSZ.out ?_)
    | (refine wpList_store_rowTo rfl 39 _ _ rfl rfl w.heap.size #[.int .i64 4, .int .u64 (n2 : Int), .int .i64 0, .int .i64 0, .int .i64 0, .int .i64 0, .int .i64 0, .int .u32 0, .int .u32 0, .int .u64 0, .slice none 0 0, .string ⟨#[]⟩, .bool false, .int .i64 0, .int .i64 0, .int .u32 0] rfl rfl 39 rzero HRX.out HSZ.out HOLD.out HONE.out ?_))
  refine bodyPost_ret (results_row_tmp rfl _ _ w.heap.size 39 #[.int .i64 4, .int .u64 (n2 : Int), .int .i64 0, .int .i64 0, .int .i64 0, .int .i64 0, .int .i64 0, .int .u32 0, .int .u32 0, .int .u64 0, .slice none 0 0, .string ⟨#[]⟩, .bool false, .int .i64 0, .int .i64 0, .int .u32 0] (0, 0) _ rfl (setRow_heap _ _ _ _ _ _ HRX.out) Try.underlying39 rfl HSZ.out) rfl ?_
  have hwb : Below w.heap.size w _ := (HLAST.out.2).below (Nat.le_refl _) (fun k hk => by rcases hk with e | e <;> omega)
  exact ⟨hwb, .inl ⟨by rw [HG.out, HBAD.out, ← HSH.out, HZN.out]; rfl, _, rfl, OpsAt.nil _⟩⟩
set_option maxRecDepth 100000 in
set_option maxHeartbeats 8000000 in
theorem rparse_c4b (a : Option Addr) (cap : Nat) (zs : List Int) (w : World) (h : Row w a zs.length zs) (hn : a = none → cap = 0) (hlc : zs.length ≤ cap) (hcm : cap ≤ maxLen) (hl : zs.length ≤ 1073741824) (P : Pos) (hP : P = ⟨zs, false⟩) (hk : (P.num 1 : Int) = 5) :
    Calls Try.prog 8 #[.slice a zs.length cap] w fun e w' => RParseIs zs w e w' := by
  have b1 : Bytes P.zs := by rw [hP]; exact h.2.1
  have hs0 := rparse_start w a cap zs h hn hlc hcm hl
  rw [← hP] at hs0
  have l1 := num1_lt b1
  have k1 := fun w' => rfP_number (w.heap.size + 1) w.heap.size P 1 (by omega) (by omega) w'
  have hgd : good zs = (!bad P && (!(endRq P).short && decide ((endRq P).zs = []))) := by rw [hP]; rfl
  rw [hk] at k1
  obtain ⟨p1, hp1⟩ : ∃ x, x = P.skip 1 := ⟨_, rfl⟩
  have b2 : Bytes p1.zs := by rw [hp1]; exact skip_bytes b1 1
  rw [← hp1] at k1
  have l2 := num8_lt b2
  have k2 := fun u => rfP_number (w.heap.size + 1) w.heap.size p1 8 (by omega) (by omega) u
  obtain ⟨n2, hn2⟩ : ∃ n, n = p1.num 8 := ⟨_, rfl⟩
  obtain ⟨p2, hp2⟩ : ∃ x, x = p1.skip 8 := ⟨_, rfl⟩
  have b3 : Bytes p2.zs := by rw [hp2]; exact skip_bytes b2 8
  rw [← hn2] at k2 l2
  rw [← hp2] at k2
  have hkc : (P.num 1 : Int) = 4 ∨ (P.num 1 : Int) = 5 := by omega
  have hbad : bad P = false := by
    unfold bad
    rw [← hp1, badBody_c4 hkc]
    all_goals try rw [hk]
    all_goals try simp only [← hn2, ← hp2]
  have hend : endRq P = p2 := by
    unfold endRq
    rw [← hp1, endBody_c4 hkc]
    all_goals try rw [hk]
    all_goals try simp only [← hp2]
  have hq : readRq P = ⟨5, n2, 0, zeroQuo, zeroTok, [], nothing, false, 0, 0, 0⟩ := by
    unfold readRq
    rw [← hp1, rdBody_c4 hkc, hk]
    all_goals try simp only [← hn2, ← hp2]
  rw [hend] at hgd
  unfold RParseIs
  rw [← hP, hq]
  have HG := Lib.hid hgd
  have HBAD := Lib.hid hbad
  clear h hn hlc hcm hl hP hq hkc hgd hbad hend hp1 hn2 hp2  
  skip
  simp only [rv, rcells, zeroQuo, zeroTok, nothing, zeroRq]
  unfold rzero at hs0
  go_enter Try.func8, Try.ntmps8
  have q0 := hs0.pp.c0
  go_wp2_with fail
  clear q0
  refine (k1 _ hs0.pp.rd).mono ?_
  rintro e w1 ⟨rfl, hr, hb⟩
  have hr1 := hs0.read hr hb b2
  clear hr hb hs0 k1
  have cA : w1.cell? ⟨(w.heap.size + 3), 0, none⟩ = some (.int .i64 0) := hr1.cell 0 rfl
  have fA : w1.frozen? ⟨(w.heap.size + 3), 0, none⟩ = false := hr1.frozen 0
  have hs1 := hr1.set 0 (.int .i64 5) (cs' := #[.int .i64 5, .int .u64 0, .int .i64 0, .int .i64 0, .int .i64 0, .int .i64 0, .int .i64 0, .int .u32 0, .int .u32 0, .int .u64 0, .slice none 0 0, .string ⟨#[]⟩, .bool false, .int .i64 0, .int .i64 0, .int .u32 0]) rfl
  clear hr1
  have c0 : World.cell? _ ⟨(w.heap.size + 3), 0, none⟩ = some (.int .i64 5) := hs1.cell 0 rfl
  have q2 := hs1.pp.c0
  go_wp2_with fail
  clear q2
  refine (k2 _ hs1.pp.rd).mono ?_
  rintro e w2 ⟨rfl, hr, hb⟩
  have hr2 := hs1.read hr hb b3
  clear hr hb hs1 k2
  have c1 : w2.cell? ⟨(w.heap.size + 3), 1, none⟩ = some (.int .u64 0) := hr2.cell 1 rfl
  have f1 : w2.frozen? ⟨(w.heap.size + 3), 1, none⟩ = false := hr2.frozen 1
  have hs2 := hr2.set 1 (.int .u64 (n2 : Int)) (cs' := #[.int .i64 5, .int .u64 (n2 : Int), .int .i64 0, .int .i64 0, .int .i64 0, .int .i64 0, .int .i64 0, .int .u32 0, .int .u32 0, .int .u64 0, .slice none 0 0, .string ⟨#[]⟩, .bool false, .int .i64 0, .int .i64 0, .int .u32 0]) rfl
  clear hr2
  have c0 : World.cell? _ ⟨(w.heap.size + 3), 0, none⟩ = some (.int .i64 5) := hs2.cell 0 rfl
  have q0 := hs2.pp.c0
  have q1 := hs2.pp.c1
  have q2 := Rf.short hs2.pp.rd
  obtain ⟨sh, hsh⟩ : ∃ s, s = p2.short := ⟨_, rfl⟩
  rw [← hsh] at q2
  have HSH := Lib.hid hsh
  have kleft := refLeft_any (w.heap.size + 1) p2.zs p2.short _ hs2.pp.rd
  have HKL := Lib.hid kleft
  clear hsh kleft
  cases sh
  rotate_left
  · have HNB := Lib.hid (hs2.res)
    have hone : (rzero : Array Value).all (fun x => x.oneCell') = true := by simp [rzero, Value.oneCell']
    have HONE := Lib.hid hone
    have HSZ := Lib.hid (ref_size.trans (show some 16 = some rzero.size from rfl))
    have HLAST := Lib.hid (hs2.last rzero)
    clear hone hs2 HKL
    unfold rzero at HNB HONE HSZ HLAST
    go_wp2_with (refine wpList_store_rowTo rfl 39 _ _ rfl rfl w.heap.size #[.int .i64 0, .int .u64 0, .int .i64 0, .int .i64 0, .int .i64 0, .int .i64 0, .int .i64 0, .int .u32 0, .int .u32 0, .int .u64 0, .slice none 0 0, .string ⟨#[]⟩, .bool false, .int .i64 0, .int .i64 0, .int .u32 0] rfl rfl 39 #[.int .i64 0, .int .u64 0, .int .i64 0, .int .i64 0, .int .i64 0, .int .i64 0, .int .i64 0, .int .u32 0, .int .u32 0, .int .u64 0, .slice none 0 0, .string ⟨#[]⟩, .bool false, .int .i64 0, .int .i64 0, .int .u32 0] HNB.out HSZ.out rfl HONE.out ?_)
    refine bodyPost_ret (results_row_tmp rfl _ _ w.heap.size 39 #[.int .i64 0, .int .u64 0, .int .i64 0, .int .i64 0, .int .i64 0, .int .i64 0, .int .i64 0, .int .u32 0, .int .u32 0, .int .u64 0, .slice none 0 0, .string ⟨#[]⟩, .bool false, .int .i64 0, .int .i64 0, .int .u32 0] (0, 0) _ rfl (setRow_heap _ _ _ _ _ _ HNB.out) Try.underlying39 rfl HSZ.out) rfl ?_
    exact ⟨(HLAST.out.2).below (Nat.le_refl _) (fun k hk => by rcases hk with e | e <;> omega), .inr ⟨by rw [HG.out, HBAD.out, ← HSH.out]; simp, rfl⟩⟩
  go_wp2_with fail
  refine HKL.out.mono ?_
  rintro e wL ⟨rfl, nL, rfl⟩
  have hsL := hs2.new (But.drewN (But.refl (fun _ => False) _) nL)
  clear hs2 HKL q0 q1 q2
  by_cases hz : p2.zs.length = 0
  rotate_left
  · have hz1 : decide ((0 : Int) < (p2.zs.length : Int)) = true := decide_eq_true (by omega)
    have hpos : 0 < p2.zs.length := by omega
    have hposI : (0 : Int) < (p2.zs.length : Int) := by omega
    have HZN := Lib.hid (show decide (p2.zs = []) = false from decide_eq_false (fun e => hz (by rw [e]; rfl)))
    clear hz
    have HNB := Lib.hid (hsL.res)
    have hone : (rzero : Array Value).all (fun x => x.oneCell') = true := by simp [rzero, Value.oneCell']
    have HONE := Lib.hid hone
    have HSZ := Lib.hid (ref_size.trans (show some 16 = some rzero.size from rfl))
    have HLAST := Lib.hid (hsL.last rzero)
    clear hone hsL
    unfold rzero at HNB HONE HSZ HLAST
    go_wp2_with (refine wpList_store_rowTo rfl 39 _ _ rfl rfl w.heap.size #[.int .i64 0, .int .u64 0, .int .i64 0, .int .i64 0, .int .i64 0, .int .i64 0, .int .i64 0, .int .u32 0, .int .u32 0, .int .u64 0, .slice none 0 0, .string ⟨#[]⟩, .bool false, .int .i64 0, .int .i64 0, .int .u32 0] rfl rfl 39 #[.int .i64 0, .int .u64 0, .int .i64 0, .int .i64 0, .int .i64 0, .int .i64 0, .int .i64 0, .int .u32 0, .int .u32 0, .int .u64 0, .slice none 0 0, .string ⟨#[]⟩, .bool false, .int .i64 0, .int .i64 0, .int .u32 0] HNB.out HSZ.out rfl HONE.out ?_)
    refine bodyPost_ret (results_row_tmp rfl _ _ w.heap.size 39 #[.int .i64 0, .int .u64 0, .int .i64 0, .int .i64 0, .int .i64 0, .int .i64 0, .int .i64 0, .int .u32 0, .int .u32 0, .int .u64 0, .slice none 0 0, .string ⟨#[]⟩, .bool false, .int .i64 0, .int .i64 0, .int .u32 0] (0, 0) _ rfl (setRow_heap _ _ _ _ _ _ HNB.out) Try.underlying39 rfl HSZ.out) rfl ?_
    exact ⟨(HLAST.out.2).below (Nat.le_refl _) (fun k hk => by rcases hk with e | e <;> omega), .inr ⟨by rw [HG.out, HBAD.out, HZN.out]; simp, rfl⟩⟩
  have hz1 : decide ((0 : Int) < (p2.zs.length : Int)) = false := decide_eq_false (by omega)
  have HZN := Lib.hid (show decide (p2.zs = []) = true from decide_eq_true (List.eq_nil_of_length_eq_zero hz))
  rw [hz]
  clear hz hz1
  have HBX := Lib.hid (show _ = _ from hsL.box)
  have HRX := Lib.hid (show _ = _ from hsL.res)
  have HLAST := Lib.hid (hsL.last #[.int .i64 5, .int .u64 (n2 : Int), .int .i64 0, .int .i64 0, .int .i64 0, .int .i64 0, .int .i64 0, .int .u32 0, .int .u32 0, .int .u64 0, .slice none 0 0, .string ⟨#[]⟩, .bool false, .int .i64 0, .int .i64 0, .int .u32 0])

  clear hsL
  have hone : (#[.int .i64 5, .int .u64 (n2 : Int), .int .i64 0, .int .i64 0, .int .i64 0, .int .i64 0, .int .i64 0, .int .u32 0, .int .u32 0, .int .u64 0, .slice none 0 0, .string ⟨#[]⟩, .bool false, .int .i64 0, .int .i64 0, .int .u32 0] : Array Value).all (fun x => x.oneCell') = true := by simp [Value.oneCell']
  have HONE := Lib.hid hone
  clear hone
  have HOLD := Lib.hid (show (rzero : Array Value).size = (#[.int .i64 5, .int .u64 (n2 : Int), .int .i64 0, .int .i64 0, .int .i64 0, .int .i64 0, .int .i64 0, .int .u32 0, .int .u32 0, .int .u64 0, .slice none 0 0, .string ⟨#[]⟩, .bool false, .int .i64 0, .int .i64 0, .int .u32 0] : Array Value).size by simp [rzero])
  have HSZ := Lib.hid (ref_size.trans (show some 16 = some (#[.int .i64 5, .int .u64 (n2 : Int), .int .i64 0, .int .i64 0, .int .i64 0, .int .i64 0, .int .i64 0, .int .u32 0, .int .u32 0, .int .u64 0, .slice none 0 0, .string ⟨#[]⟩, .bool false, .int .i64 0, .int .i64 0, .int .u32 0] : Array Value).size by simp))
  go_wp2_with (first
    | (refine wpList_load_row rfl 39 _ rfl (w.heap.size + 3) rfl 39 _ (0, 0) _ HBX.out Try.underlying39 rfl HSZ.out ?_)
    | (refine wpList_store_rowTo rfl 39 _ _ rfl rfl w.heap.size #[.int .i64 5, .int .u64 (n2 : Int), .int .i64 0, .int .i64 0, .int .i64 0, .int .i64 0, .int .i64 0, .int .u32 0, .int .u32 0, .int .u64 0, .slice none 0 0, .string ⟨#[]⟩, .bool false, .int .i64 0, .int .i64 0, .int .u32 0] rfl rfl 39 rzero HRX.out HSZ.out HOLD.out HONE.out ?_))
  refine bodyPost_ret (results_row_tmp rfl _ _ w.heap.size 39 #[.int .i64 5, .int .u64 (n2 : Int), .int .i64 0, .int .i64 0, .int .i64 0, .int .i64 0, .int .i64 0, .int .u32 0, .int .u32 0, .int .u64 0, .slice none 0 0, .string ⟨#[]⟩, .bool false, .int .i64 0, .int .i64 0, .int .u32 0] (0, 0) _ rfl (setRow_heap _ _ _ _ _ _ HRX.out) Try.underlying39 rfl HSZ.out) rfl ?_
  have hwb : Below w.heap.size w _ := (HLAST.out.2).below (Nat.le_refl _) (fun k hk => by rcases hk with e | e <;> omega)
  exact ⟨hwb, .inl ⟨by rw [HG.out, HBAD.out, ← HSH.out, HZN.out]; rfl, _, rfl, OpsAt.nil _⟩⟩
end Go.Proofs.Ytbdbbnpkekcefaa.Cmd

/- What the document's Parse answers, a class of tags each. -/
import Derived.Test.YtbdbbnpkekcefaaCmdRKit
namespace Go.Proofs.Ytbdbbnpkekcefaa.Cmd
open Go.Proofs.Ytbdbbnpkekcefaa.Mem Go.Proofs.Ytbdbbnpkekcefaa.Pack
open Go.ChangeShapes Go.WideShapes Go.ChangeAt Go.RowKit
set_option linter.unusedVariables false
set_option linter.unusedSimpArgs false

set_option maxRecDepth 100000 in
set_option maxHeartbeats 8000000 in
theorem rparse_c9 (a : Option Addr) (cap : Nat) (zs : List Int) (w : World) (h : Row w a zs.length zs) (hn : a = none → cap = 0) (hlc : zs.length ≤ cap) (hcm : cap ≤ maxLen) (hl : zs.length ≤ 1073741824) (P : Pos) (hP : P = ⟨zs, false⟩) (hk : (P.num 1 : Int) = 9) :
    Calls Try.prog 8 #[.slice a zs.length cap] w fun e w' => RParseIs zs w e w' := by
  have b1 : Bytes P.zs := by rw [hP]; exact h.2.1
  have hs0 := rparse_start w a cap zs h hn hlc hcm hl
  rw [← hP] at hs0
  have l1 := num1_lt b1
  have k1 := fun w' => rfP_number (w.heap.size + 1) w.heap.size P 1 (by omega) (by omega) w'
  have hgd : good zs = (!bad P && (!(endRq P).short && decide ((endRq P).zs = []))) := by rw [hP]; rfl
  rw [hk] at k1
  obtain ⟨p1, hp1⟩ : ∃ x, x = P.skip 1 := ⟨_, rfl⟩
  have b2 : Bytes p1.zs := by rw [hp1]; exact skip_bytes b1 1
  rw [← hp1] at k1
  have k2 := fun u => ptok_any (w.heap.size + 2) (w.heap.size + 1) w.heap.size p1 false u
  obtain ⟨⟨tb, tg, ts, tx⟩, hn2⟩ : ∃ n, n = rdTok p1 := ⟨_, rfl⟩
  obtain ⟨p2, hp2⟩ : ∃ x, x = endTok p1 := ⟨_, rfl⟩
  have b3 : Bytes p2.zs := by rw [hp2]; exact endTok_bytes b2
  rw [← hn2, ← hp2] at k2
  simp only [tv] at k2
  have l3 := num1_lt b3
  have k3 := fun u => rfP_number (w.heap.size + 1) w.heap.size p2 1 (by omega) (by omega) u
  obtain ⟨n3, hm3⟩ : ∃ n, n = p2.num 1 := ⟨_, rfl⟩
  obtain ⟨p3, hq3⟩ : ∃ x, x = p2.skip 1 := ⟨_, rfl⟩
  have b4 : Bytes p3.zs := by rw [hq3]; exact skip_bytes b3 1
  rw [← hm3] at k3 l3
  rw [← hq3] at k3
  obtain ⟨pE, hp3⟩ : ∃ x, x = at9 n3 p3 := ⟨_, rfl⟩
  have hkc : (P.num 1 : Int) = 9 := by omega
  have hbad : bad P = (decide (n3 < 1) || (decide (16 < n3) || bads9 n3 p3)) := by
    unfold bad
    rw [← hp1, badBody_c9 hkc]
    all_goals try rw [hk]
    all_goals try simp only [← hn2, ← hp2, ← hm3, ← hq3, ← hp3]
  have hend : endRq P = pE := by
    unfold endRq
    rw [← hp1, endBody_c9 hkc]
    all_goals try rw [hk]
    all_goals try simp only [← hp2, ← hm3, ← hq3, ← hp3]
  have hq : readRq P = ⟨9, 0, 0, zeroQuo, ⟨tb, tg, ts, tx⟩, (ops9 n3 p3), nothing, false, 0, 0, 0⟩ := by
    unfold readRq
    rw [← hp1, rdBody_c9 hkc, hk]
    all_goals try simp only [← hn2, ← hp2, ← hm3, ← hq3, ← hp3]
  rw [hend] at hgd
  unfold RParseIs
  rw [← hP, hq]
  have HG := Lib.hid hgd
  have HBAD := Lib.hid hbad
  have hpE9 := hp3
  clear h hn hlc hcm hl hP hq hkc hgd hbad hend hp1 hn2 hp2 hm3 hq3 hp3  
  skip
  simp only [rv, rcells, zeroQuo, zeroTok, nothing, zeroRq]
  unfold rzero at hs0
  have HPE := Lib.hid hpE9
  clear hpE9
  go_enter Try.func8, Try.ntmps8
  have q0 := hs0.pp.c0
  go_wp2_with fail
  clear q0
  refine (k1 _ hs0.pp.rd).mono ?_
  rintro e w1 ⟨rfl, hr, hb⟩
  have hr1 := hs0.read hr hb b2
  clear hr hb hs0 k1
  have cA : w1.cell? ⟨(w.heap.size + 3), 0, none⟩ = some (.int .i64 0) := hr1.cell 0 rfl
  have fA : w1.frozen? ⟨(w.heap.size + 3), 0, none⟩ = false := hr1.frozen 0
  have hs1 := hr1.set 0 (.int .i64 9) (cs' := #[.int .i64 9, .int .u64 0, .int .i64 0, .int .i64 0, .int .i64 0, .int .i64 0, .int .i64 0, .int .u32 0, .int .u32 0, .int .u64 0, .slice none 0 0, .string ⟨#[]⟩, .bool false, .int .i64 0, .int .i64 0, .int .u32 0]) rfl
  clear hr1
  have c0 : World.cell? _ ⟨(w.heap.size + 3), 0, none⟩ = some (.int .i64 9) := hs1.cell 0 rfl
  go_wp2_with fail
  refine (k2 _ hs1.pp).mono ?_
  rintro e w2 ⟨rfl, hp, hb⟩
  have hr2 := hs1.call hp hb
  clear hp hb hs1 k2 c0
  have c6 : w2.cell? ⟨(w.heap.size + 3), 6, none⟩ = some (.int .i64 0) := hr2.cell 6 rfl
  have f6 : w2.frozen? ⟨(w.heap.size + 3), 6, none⟩ = false := hr2.frozen 6
  have c7 : w2.cell? ⟨(w.heap.size + 3), 7, none⟩ = some (.int .u32 0) := hr2.cell 7 rfl
  have f7 : w2.frozen? ⟨(w.heap.size + 3), 7, none⟩ = false := hr2.frozen 7
  have c8 : w2.cell? ⟨(w.heap.size + 3), 8, none⟩ = some (.int .u32 0) := hr2.cell 8 rfl
  have f8 : w2.frozen? ⟨(w.heap.size + 3), 8, none⟩ = false := hr2.frozen 8
  have c9 : w2.cell? ⟨(w.heap.size + 3), 9, none⟩ = some (.int .u64 0) := hr2.cell 9 rfl
  have f9 : w2.frozen? ⟨(w.heap.size + 3), 9, none⟩ = false := hr2.frozen 9
  have hq0 := hr2.set 6 (.int .i64 tb) (cs' := #[.int .i64 9, .int .u64 0, .int .i64 0, .int .i64 0, .int .i64 0, .int .i64 0, .int .i64 tb, .int .u32 0, .int .u32 0, .int .u64 0, .slice none 0 0, .string ⟨#[]⟩, .bool false, .int .i64 0, .int .i64 0, .int .u32 0]) rfl
  have hq1 := hq0.set 7 (.int .u32 (tg : Int)) (cs' := #[.int .i64 9, .int .u64 0, .int .i64 0, .int .i64 0, .int .i64 0, .int .i64 0, .int .i64 tb, .int .u32 (tg : Int), .int .u32 0, .int .u64 0, .slice none 0 0, .string ⟨#[]⟩, .bool false, .int .i64 0, .int .i64 0, .int .u32 0]) rfl
  have hq2 := hq1.set 8 (.int .u32 (ts : Int)) (cs' := #[.int .i64 9, .int .u64 0, .int .i64 0, .int .i64 0, .int .i64 0, .int .i64 0, .int .i64 tb, .int .u32 (tg : Int), .int .u32 (ts : Int), .int .u64 0, .slice none 0 0, .string ⟨#[]⟩, .bool false, .int .i64 0, .int .i64 0, .int .u32 0]) rfl
  have hq3 := hq2.set 9 (.int .u64 (tx : Int)) (cs' := #[.int .i64 9, .int .u64 0, .int .i64 0, .int .i64 0, .int .i64 0, .int .i64 0, .int .i64 tb, .int .u32 (tg : Int), .int .u32 (ts : Int), .int .u64 (tx : Int), .slice none 0 0, .string ⟨#[]⟩, .bool false, .int .i64 0, .int .i64 0, .int .u32 0]) rfl
  have hs2 := hq3
  clear hq0 hq1 hq2 hq3 hr2
  try clear c0
  have c0 : World.cell? _ ⟨(w.heap.size + 3), 0, none⟩ = some (.int .i64 9) := hs2.cell 0 rfl
  have q3 := hs2.pp.c0
  go_wp2_with fail
  clear q3
  refine (k3 _ hs2.pp.rd).mono ?_
  rintro e w3 ⟨rfl, hr, hb⟩
  have hr3 := hs2.read hr hb b4
  clear hr hb hs2 k3 c0
  have c0 : World.cell? _ ⟨(w.heap.size + 3), 0, none⟩ = some (.int .i64 9) := hr3.cell 0 rfl
  have q0 := hr3.pp.c0
  have q1 := hr3.pp.c1
  have g1 := hr3.pp.f1
  obtain ⟨i0, hi0, hz0, hz1, hz2⟩ := info_parts rop_info
  by_cases hx0 : n3 < 1
  · have d0 : decide ((n3 : Int) < 1) = true := decide_eq_true (by omega)
    have HD0 := Lib.hid (show decide (n3 < 1) = true from decide_eq_true hx0)
    have hsB := hr3.mark true
    have hn0 : n3 = 0 := by omega
    subst hn0
    clear hr3 hx0 hi0 hz0 hz1 hz2
    go_wp2_with fail
    have HSB := Lib.hid hsB
    clear c0 q0 q1 g1 hsB
    go_loopw [9] (fun i wr => i = .int .i64 0 ∧ Pdg (w.heap.size + 2) (w.heap.size + 1) w.heap.size 39 w.heap.size (w.heap.size + 3) #[.int .i64 0, .int .u64 0, .int .i64 0, .int .i64 0, .int .i64 0, .int .i64 0, .int .i64 0, .int .u32 0, .int .u32 0, .int .u64 0, .slice none 0 0, .string ⟨#[]⟩, .bool false, .int .i64 0, .int .i64 0, .int .u32 0] w wr p3 true #[.int .i64 9, .int .u64 0, .int .i64 0, .int .i64 0, .int .i64 0, .int .i64 0, .int .i64 tb, .int .u32 (tg : Int), .int .u32 (ts : Int), .int .u64 (tx : Int), .slice none 0 0, .string ⟨#[]⟩, .bool false, .int .i64 0, .int .i64 0, .int .u32 0]) (fun _ _ => 0)
    case atStart => exact ⟨rfl, HSB.out⟩
    case round =>
      obtain ⟨rfl, hsC⟩ := hrel
      clear HSB
      have c0 : World.cell? _ ⟨(w.heap.size + 3), 0, none⟩ = some (.int .i64 9) := hsC.cell 0 rfl
      have q0 := hsC.pp.c0
      have q1 := hsC.pp.c1
      have HNB := Lib.hid (hsC.res)
      have hone : (rzero : Array Value).all (fun x => x.oneCell') = true := by simp [rzero, Value.oneCell']
      have HONE := Lib.hid hone
      have HSZ := Lib.hid (ref_size.trans (show some 16 = some rzero.size from rfl))
      have HLAST := Lib.hid (hsC.last rzero)
      clear hone hsC
      unfold rzero at HNB HONE HSZ HLAST
      go_wp2_with (refine wpList_store_rowTo rfl 39 _ _ rfl rfl w.heap.size #[.int .i64 0, .int .u64 0, .int .i64 0, .int .i64 0, .int .i64 0, .int .i64 0, .int .i64 0, .int .u32 0, .int .u32 0, .int .u64 0, .slice none 0 0, .string ⟨#[]⟩, .bool false, .int .i64 0, .int .i64 0, .int .u32 0] rfl rfl 39 #[.int .i64 0, .int .u64 0, .int .i64 0, .int .i64 0, .int .i64 0, .int .i64 0, .int .i64 0, .int .u32 0, .int .u32 0, .int .u64 0, .slice none 0 0, .string ⟨#[]⟩, .bool false, .int .i64 0, .int .i64 0, .int .u32 0] HNB.out HSZ.out rfl HONE.out ?_)
      refine bodyPost_ret (results_row_tmp rfl _ _ w.heap.size 39 #[.int .i64 0, .int .u64 0, .int .i64 0, .int .i64 0, .int .i64 0, .int .i64 0, .int .i64 0, .int .u32 0, .int .u32 0, .int .u64 0, .slice none 0 0, .string ⟨#[]⟩, .bool false, .int .i64 0, .int .i64 0, .int .u32 0] (0, 0) _ rfl (setRow_heap _ _ _ _ _ _ HNB.out) Try.underlying39 rfl HSZ.out) rfl ?_
      exact ⟨(HLAST.out.2).below (Nat.le_refl _) (fun k hk => by rcases hk with e | e <;> omega), .inr ⟨by rw [HG.out, HBAD.out, HD0.out]; first | rfl | simp, rfl⟩⟩
  have d0 : decide ((n3 : Int) < 1) = false := decide_eq_false (by omega)
  have HD0 := Lib.hid (show decide (n3 < 1) = false from decide_eq_false hx0)
  by_cases hx1 : 16 < n3
  · have d1 : decide ((16 : Int) < (n3 : Int)) = true := decide_eq_true (by omega)
    have HD1 := Lib.hid (show decide (16 < n3) = true from decide_eq_true hx1)
    have hsB := hr3.mark true
    have hpos : 0 < n3 := by omega
    have hposI : (0 : Int) < (n3 : Int) := by omega
    have dl : decide ((0 : Int) < (n3 : Int)) = true := decide_eq_true (by omega)
    clear hr3 hx1 hi0 hz0 hz1 hz2
    go_wp2_with fail
    have HSB := Lib.hid hsB
    clear c0 q0 q1 g1 hsB
    go_loopw [9] (fun i wr => i = .int .i64 0 ∧ Pdg (w.heap.size + 2) (w.heap.size + 1) w.heap.size 39 w.heap.size (w.heap.size + 3) #[.int .i64 0, .int .u64 0, .int .i64 0, .int .i64 0, .int .i64 0, .int .i64 0, .int .i64 0, .int .u32 0, .int .u32 0, .int .u64 0, .slice none 0 0, .string ⟨#[]⟩, .bool false, .int .i64 0, .int .i64 0, .int .u32 0] w wr p3 true #[.int .i64 9, .int .u64 0, .int .i64 0, .int .i64 0, .int .i64 0, .int .i64 0, .int .i64 tb, .int .u32 (tg : Int), .int .u32 (ts : Int), .int .u64 (tx : Int), .slice none 0 0, .string ⟨#[]⟩, .bool false, .int .i64 0, .int .i64 0, .int .u32 0]) (fun _ _ => 0)
    case atStart => exact ⟨rfl, HSB.out⟩
    case round =>
      obtain ⟨rfl, hsC⟩ := hrel
      clear HSB
      have c0 : World.cell? _ ⟨(w.heap.size + 3), 0, none⟩ = some (.int .i64 9) := hsC.cell 0 rfl
      have q0 := hsC.pp.c0
      have q1 := hsC.pp.c1
      have HNB := Lib.hid (hsC.res)
      have hone : (rzero : Array Value).all (fun x => x.oneCell') = true := by simp [rzero, Value.oneCell']
      have HONE := Lib.hid hone
      have HSZ := Lib.hid (ref_size.trans (show some 16 = some rzero.size from rfl))
      have HLAST := Lib.hid (hsC.last rzero)
      clear hone hsC
      unfold rzero at HNB HONE HSZ HLAST
      go_wp2_with (refine wpList_store_rowTo rfl 39 _ _ rfl rfl w.heap.size #[.int .i64 0, .int .u64 0, .int .i64 0, .int .i64 0, .int .i64 0, .int .i64 0, .int .i64 0, .int .u32 0, .int .u32 0, .int .u64 0, .slice none 0 0, .string ⟨#[]⟩, .bool false, .int .i64 0, .int .i64 0, .int .u32 0] rfl rfl 39 #[.int .i64 0, .int .u64 0, .int .i64 0, .int .i64 0, .int .i64 0, .int .i64 0, .int .i64 0, .int .u32 0, .int .u32 0, .int .u64 0, .slice none 0 0, .string ⟨#[]⟩, .bool false, .int .i64 0, .int .i64 0, .int .u32 0] HNB.out HSZ.out rfl HONE.out ?_)
      refine bodyPost_ret (results_row_tmp rfl _ _ w.heap.size 39 #[.int .i64 0, .int .u64 0, .int .i64 0, .int .i64 0, .int .i64 0, .int .i64 0, .int .i64 0, .int .u32 0, .int .u32 0, .int .u64 0, .slice none 0 0, .string ⟨#[]⟩, .bool false, .int .i64 0, .int .i64 0, .int .u32 0] (0, 0) _ rfl (setRow_heap _ _ _ _ _ _ HNB.out) Try.underlying39 rfl HSZ.out) rfl ?_
      exact ⟨(HLAST.out.2).below (Nat.le_refl _) (fun k hk => by rcases hk with e | e <;> omega), .inr ⟨by rw [HG.out, HBAD.out, HD0.out, HD1.out]; first | rfl | simp, rfl⟩⟩
  have d1 : decide ((16 : Int) < (n3 : Int)) = false := decide_eq_false (by omega)
  have HD1 := Lib.hid (show decide (16 < n3) = false from decide_eq_false hx1)
  have hsB := hr3.mark false
  clear hr3
  go_wp2_with fail
  have HSB := Lib.hid hsB
  clear c0 q0 q1 g1 hsB d0 d1
  go_loopw [9] (fun i wr => ∃ (k : Nat) (va : Option Addr) (vc : Nat) (b : Bool), i = .int .i64 (k : Int) ∧ k ≤ n3 ∧ b = bads9 k p3 ∧ Pdg (w.heap.size + 2) (w.heap.size + 1) w.heap.size 39 w.heap.size (w.heap.size + 3) #[.int .i64 0, .int .u64 0, .int .i64 0, .int .i64 0, .int .i64 0, .int .i64 0, .int .i64 0, .int .u32 0, .int .u32 0, .int .u64 0, .slice none 0 0, .string ⟨#[]⟩, .bool false, .int .i64 0, .int .i64 0, .int .u32 0] w wr (at9 k p3) b #[.int .i64 9, .int .u64 0, .int .i64 0, .int .i64 0, .int .i64 0, .int .i64 0, .int .i64 tb, .int .u32 (tg : Int), .int .u32 (ts : Int), .int .u64 (tx : Int), .slice va k vc, .string ⟨#[]⟩, .bool false, .int .i64 0, .int .i64 0, .int .u32 0] ∧ wr.ownsRow (w.heap.size + 4) 83 5 (.slice va k vc) k ((ops9 k p3).flatMap ocells) ∧ (w.heap.size + 4) ≤ wr.heap.size) (fun i _ => n3 - (intOf i).toNat)
  case atStart => exact ⟨0, none, 0, false, rfl, Nat.zero_le _, rfl, HSB.out, World.ownsRow_nil _ _ _ _, Nat.succ_le_of_lt HSB.out.box.lt⟩
  case round =>
    obtain ⟨k, va, vc, b, rfl, hk, hbb, hsC, ho, hbs⟩ := hrel
    have HBB := Lib.hid hbb
    have q0 := hsC.pp.c0
    have q1 := hsC.pp.c1
    clear HSB hbb
    by_cases hlt : k < n3
    rotate_left
    · have hkn : k = n3 := by omega
      subst hkn
      rw [← HPE.out] at hsC
      have HOF := Lib.hid (opsFrom_of_own (l := ops9 k p3) (by rw [ops9_length]; exact ho))
      have HLO := Lib.hid (show w.heap.size + 3 < (w.heap.size + 4) by omega)
      have HLN := Lib.hid (ops9_length k p3)
      clear ho hbs hlt hk
      cases b
      rotate_left
      · have c0 : World.cell? _ ⟨(w.heap.size + 3), 0, none⟩ = some (.int .i64 9) := hsC.cell 0 rfl
        have q0 := hsC.pp.c0
        have q1 := hsC.pp.c1
        have HNB := Lib.hid (hsC.res)
        have hone : (rzero : Array Value).all (fun x => x.oneCell') = true := by simp [rzero, Value.oneCell']
        have HONE := Lib.hid hone
        have HSZ := Lib.hid (ref_size.trans (show some 16 = some rzero.size from rfl))
        have HLAST := Lib.hid (hsC.last rzero)
        clear hone hsC
        unfold rzero at HNB HONE HSZ HLAST
        go_wp2_with (refine wpList_store_rowTo rfl 39 _ _ rfl rfl w.heap.size #[.int .i64 0, .int .u64 0, .int .i64 0, .int .i64 0, .int .i64 0, .int .i64 0, .int .i64 0, .int .u32 0, .int .u32 0, .int .u64 0, .slice none 0 0, .string ⟨#[]⟩, .bool false, .int .i64 0, .int .i64 0, .int .u32 0] rfl rfl 39 #[.int .i64 0, .int .u64 0, .int .i64 0, .int .i64 0, .int .i64 0, .int .i64 0, .int .i64 0, .int .u32 0, .int .u32 0, .int .u64 0, .slice none 0 0, .string ⟨#[]⟩, .bool false, .int .i64 0, .int .i64 0, .int .u32 0] HNB.out HSZ.out rfl HONE.out ?_)
        refine bodyPost_ret (results_row_tmp rfl _ _ w.heap.size 39 #[.int .i64 0, .int .u64 0, .int .i64 0, .int .i64 0, .int .i64 0, .int .i64 0, .int .i64 0, .int .u32 0, .int .u32 0, .int .u64 0, .slice none 0 0, .string ⟨#[]⟩, .bool false, .int .i64 0, .int .i64 0, .int .u32 0] (0, 0) _ rfl (setRow_heap _ _ _ _ _ _ HNB.out) Try.underlying39 rfl HSZ.out) rfl ?_
        exact ⟨(HLAST.out.2).below (Nat.le_refl _) (fun k hk => by rcases hk with e | e <;> omega), .inr ⟨by rw [HG.out, HBAD.out, HD0.out, HD1.out, ← HBB.out]; first | rfl | simp, rfl⟩⟩
      have c0 : World.cell? _ ⟨(w.heap.size + 3), 0, none⟩ = some (.int .i64 9) := hsC.cell 0 rfl
      have q0 := hsC.pp.c0
      have q1 := hsC.pp.c1
      have q2 := Rf.short hsC.pp.rd
      obtain ⟨sh, hsh⟩ : ∃ s, s = pE.short := ⟨_, rfl⟩
      rw [← hsh] at q2
      have HSH := Lib.hid hsh
      have kleft := refLeft_any (w.heap.size + 1) pE.zs pE.short _ hsC.pp.rd
      have HKL := Lib.hid kleft
      clear hsh kleft
      cases sh
      rotate_left
      · have HNB := Lib.hid (hsC.res)
        have hone : (rzero : Array Value).all (fun x => x.oneCell') = true := by simp [rzero, Value.oneCell']
        have HONE := Lib.hid hone
        have HSZ := Lib.hid (ref_size.trans (show some 16 = some rzero.size from rfl))
        have HLAST := Lib.hid (hsC.last rzero)
        clear hone hsC HKL
        unfold rzero at HNB HONE HSZ HLAST
        go_wp2_with (refine wpList_store_rowTo rfl 39 _ _ rfl rfl w.heap.size #[.int .i64 0, .int .u64 0, .int .i64 0, .int .i64 0, .int .i64 0, .int .i64 0, .int .i64 0, .int .u32 0, .int .u32 0, .int .u64 0, .slice none 0 0, .string ⟨#[]⟩, .bool false, .int .i64 0, .int .i64 0, .int .u32 0] rfl rfl 39 #[.int .i64 0, .int .u64 0, .int .i64 0, .int .i64 0, .int .i64 0, .int .i64 0, .int .i64 0, .int .u32 0, .int .u32 0, .int .u64 0, .slice none 0 0, .string ⟨#[]⟩, .bool false, .int .i64 0, .int .i64 0, .int .u32 0] HNB.out HSZ.out rfl HONE.out ?_)
        refine bodyPost_ret (results_row_tmp rfl _ _ w.heap.size 39 #[.int .i64 0, .int .u64 0, .int .i64 0, .int .i64 0, .int .i64 0, .int .i64 0, .int .i64 0, .int .u32 0, .int .u32 0, .int .u64 0, .slice none 0 0, .string ⟨#[]⟩, .bool false, .int .i64 0, .int .i64 0, .int .u32 0] (0, 0) _ rfl (setRow_heap _ _ _ _ _ _ HNB.out) Try.underlying39 rfl HSZ.out) rfl ?_
        exact ⟨(HLAST.out.2).below (Nat.le_refl _) (fun k hk => by rcases hk with e | e <;> omega), .inr ⟨by rw [HG.out, HBAD.out, HD0.out, HD1.out, ← HBB.out, ← HSH.out]; simp, rfl⟩⟩
      go_wp2_with fail
      refine HKL.out.mono ?_
      rintro e wL ⟨rfl, nL, rfl⟩
      have hsL := hsC.new (But.drewN (But.refl (fun _ => False) _) nL)
      clear hsC HKL q0 q1 q2
      by_cases hz : pE.zs.length = 0
      rotate_left
      · have hz1 : decide ((0 : Int) < (pE.zs.length : Int)) = true := decide_eq_true (by omega)
        have hpos : 0 < pE.zs.length := by omega
        have hposI : (0 : Int) < (pE.zs.length : Int) := by omega
        have HZN := Lib.hid (show decide (pE.zs = []) = false from decide_eq_false (fun e => hz (by rw [e]; rfl)))
        clear hz
        have HNB := Lib.hid (hsL.res)
        have hone : (rzero : Array Value).all (fun x => x.oneCell') = true := by simp [rzero, Value.oneCell']
        have HONE := Lib.hid hone
        have HSZ := Lib.hid (ref_size.trans (show some 16 = some rzero.size from rfl))
        have HLAST := Lib.hid (hsL.last rzero)
        clear hone hsL
        unfold rzero at HNB HONE HSZ HLAST
        go_wp2_with (refine wpList_store_rowTo rfl 39 _ _ rfl rfl w.heap.size #[.int .i64 0, .int .u64 0, .int .i64 0, .int .i64 0, .int .i64 0, .int .i64 0, .int .i64 0, .int .u32 0, .int .u32 0, .int .u64 0, .slice none 0 0, .string ⟨#[]⟩, .bool false, .int .i64 0, .int .i64 0, .int .u32 0] rfl rfl 39 #[.int .i64 0, .int .u64 0, .int .i64 0, .int .i64 0, .int .i64 0, .int .i64 0, .int .i64 0, .int .u32 0, .int .u32 0, .int .u64 0, .slice none 0 0, .string ⟨#[]⟩, .bool false, .int .i64 0, .int .i64 0, .int .u32 0] HNB.out HSZ.out rfl HONE.out ?_)
        refine bodyPost_ret (results_row_tmp rfl _ _ w.heap.size 39 #[.int .i64 0, .int .u64 0, .int .i64 0, .int .i64 0, .int .i64 0, .int .i64 0, .int .i64 0, .int .u32 0, .int .u32 0, .int .u64 0, .slice none 0 0, .string ⟨#[]⟩, .bool false, .int .i64 0, .int .i64 0, .int .u32 0] (0, 0) _ rfl (setRow_heap _ _ _ _ _ _ HNB.out) Try.underlying39 rfl HSZ.out) rfl ?_
        exact ⟨(HLAST.out.2).below (Nat.le_refl _) (fun k hk => by rcases hk with e | e <;> omega), .inr ⟨by rw [HG.out, HBAD.out, HD0.out, HD1.out, ← HBB.out, HZN.out]; simp, rfl⟩⟩
      have hz1 : decide ((0 : Int) < (pE.zs.length : Int)) = false := decide_eq_false (by omega)
      have HZN := Lib.hid (show decide (pE.zs = []) = true from decide_eq_true (List.eq_nil_of_length_eq_zero hz))
      rw [hz]
      clear hz hz1
      have HBX := Lib.hid (show _ = _ from hsL.box)
      have HRX := Lib.hid (show _ = _ from hsL.res)
      have HLAST := Lib.hid (hsL.last #[.int .i64 9, .int .u64 0, .int .i64 0, .int .i64 0, .int .i64 0, .int .i64 0, .int .i64 tb, .int .u32 (tg : Int), .int .u32 (ts : Int), .int .u64 (tx : Int), .slice va k vc, .string ⟨#[]⟩, .bool false, .int .i64 0, .int .i64 0, .int .u32 0])
      have HOF2 := Lib.hid (HOF.out.new (But.drewN (But.refl (fun _ => False) _) nL))
      clear hsL
      have hone : (#[.int .i64 9, .int .u64 0, .int .i64 0, .int .i64 0, .int .i64 0, .int .i64 0, .int .i64 tb, .int .u32 (tg : Int), .int .u32 (ts : Int), .int .u64 (tx : Int), .slice va k vc, .string ⟨#[]⟩, .bool false, .int .i64 0, .int .i64 0, .int .u32 0] : Array Value).all (fun x => x.oneCell') = true := by simp [Value.oneCell']
      have HONE := Lib.hid hone
      clear hone
      have HOLD := Lib.hid (show (rzero : Array Value).size = (#[.int .i64 9, .int .u64 0, .int .i64 0, .int .i64 0, .int .i64 0, .int .i64 0, .int .i64 tb, .int .u32 (tg : Int), .int .u32 (ts : Int), .int .u64 (tx : Int), .slice va k vc, .string ⟨#[]⟩, .bool false, .int .i64 0, .int .i64 0, .int .u32 0] : Array Value).size by simp [rzero])
      have HSZ := Lib.hid (ref_size.trans (show some 16 = some (#[.int .i64 9, .int .u64 0, .int .i64 0, .int .i64 0, .int .i64 0, .int .i64 0, .int .i64 tb, .int .u32 (tg : Int), .int .u32 (ts : Int), .int .u64 (tx : Int), .slice va k vc, .string ⟨#[]⟩, .bool false, .int .i64 0, .int .i64 0, .int .u32 0] : Array Value).size by simp))
      go_wp2_with (first
        | (refine wpList_load_row rfl 39 _ rfl (w.heap.size + 3) rfl 39 _ (0, 0) _ HBX.out Try.underlying39 rfl HSZ.out ?_)
        | (refine wpList_store_rowTo rfl 39 _ _ rfl rfl w.heap.size #[.int .i64 9, .int .u64 0, .int .i64 0, .int .i64 0, .int .i64 0, .int .i64 0, .int .i64 tb, .int .u32 (tg : Int), .int .u32 (ts : Int), .int .u64 (tx : Int), .slice va k vc, .string ⟨#[]⟩, .bool false, .int .i64 0, .int .i64 0, .int .u32 0] rfl rfl 39 rzero HRX.out HSZ.out HOLD.out HONE.out ?_))
      refine bodyPost_ret (results_row_tmp rfl _ _ w.heap.size 39 #[.int .i64 9, .int .u64 0, .int .i64 0, .int .i64 0, .int .i64 0, .int .i64 0, .int .i64 tb, .int .u32 (tg : Int), .int .u32 (ts : Int), .int .u64 (tx : Int), .slice va k vc, .string ⟨#[]⟩, .bool false, .int .i64 0, .int .i64 0, .int .u32 0] (0, 0) _ rfl (setRow_heap _ _ _ _ _ _ HRX.out) Try.underlying39 rfl HSZ.out) rfl ?_
      have hwb : Below w.heap.size w _ := (HLAST.out.2).below (Nat.le_refl _) (fun k hk => by rcases hk with e | e <;> omega)
      exact ⟨hwb, .inl ⟨by rw [HG.out, HBAD.out, HD0.out, HD1.out, ← HBB.out, ← HSH.out, HZN.out]; rfl, _, rfl, (HOF2.out.but (but_setRow (fun k => k = w.heap.size) (But.refl _ _) (.inl rfl) _) (fun k h1 _ e => by have := HLO.out; omega)).at_⟩⟩
    cases b
    rotate_left
    · have c0 : World.cell? _ ⟨(w.heap.size + 3), 0, none⟩ = some (.int .i64 9) := hsC.cell 0 rfl
      have q0 := hsC.pp.c0
      have q1 := hsC.pp.c1
      have HNB := Lib.hid (hsC.res)
      have hone : (rzero : Array Value).all (fun x => x.oneCell') = true := by simp [rzero, Value.oneCell']
      have HONE := Lib.hid hone
      have HSZ := Lib.hid (ref_size.trans (show some 16 = some rzero.size from rfl))
      have HLAST := Lib.hid (hsC.last rzero)
      clear hone hsC
      unfold rzero at HNB HONE HSZ HLAST
      go_wp2_with (refine wpList_store_rowTo rfl 39 _ _ rfl rfl w.heap.size #[.int .i64 0, .int .u64 0, .int .i64 0, .int .i64 0, .int .i64 0, .int .i64 0, .int .i64 0, .int .u32 0, .int .u32 0, .int .u64 0, .slice none 0 0, .string ⟨#[]⟩, .bool false, .int .i64 0, .int .i64 0, .int .u32 0] rfl rfl 39 #[.int .i64 0, .int .u64 0, .int .i64 0, .int .i64 0, .int .i64 0, .int .i64 0, .int .i64 0, .int .u32 0, .int .u32 0, .int .u64 0, .slice none 0 0, .string ⟨#[]⟩, .bool false, .int .i64 0, .int .i64 0, .int .u32 0] HNB.out HSZ.out rfl HONE.out ?_)
      refine bodyPost_ret (results_row_tmp rfl _ _ w.heap.size 39 #[.int .i64 0, .int .u64 0, .int .i64 0, .int .i64 0, .int .i64 0, .int .i64 0, .int .i64 0, .int .u32 0, .int .u32 0, .int .u64 0, .slice none 0 0, .string ⟨#[]⟩, .bool false, .int .i64 0, .int .i64 0, .int .u32 0] (0, 0) _ rfl (setRow_heap _ _ _ _ _ _ HNB.out) Try.underlying39 rfl HSZ.out) rfl ?_
      exact ⟨(HLAST.out.2).below (Nat.le_refl _) (fun k hk => by rcases hk with e | e <;> omega), .inr ⟨by rw [HG.out, HBAD.out, HD0.out, HD1.out, bads9_mono hk HBB.out.symm]; first | rfl | simp, rfl⟩⟩
    have ko := pop9_any (w.heap.size + 2) (w.heap.size + 1) w.heap.size (at9 k p3) false wr hsC.pp
    have hsn := ops9_snoc k p3
    have hat := at9_snoc k p3
    have hbn := bads9_snoc k p3
    rw [← HBB.out, Bool.false_or] at hbn
    rw [← hat] at ko
    rw [Bool.false_or, ← hbn] at ko
    obtain ⟨o, hoe⟩ : ∃ o, o = rd9 (at9 k p3) := ⟨_, rfl⟩
    obtain ⟨bn, hbne⟩ : ∃ b, b = bads9 (k + 1) p3 := ⟨_, rfl⟩
    obtain ⟨PN, hPN⟩ : ∃ x, x = at9 (k + 1) p3 := ⟨_, rfl⟩
    rw [← hoe, ← hbne, ← hPN] at ko
    rw [← hoe] at hsn
    unfold ov at ko
    have HSN := Lib.hid (And.intro hsn (And.intro hbne hPN))
    have HO := Lib.hid ho
    clear hsn hat hbn hoe hbne hPN ho HBB
    go_wp2_with fail
    refine ko.mono ?_
    rintro e w2 ⟨rfl, hp, hb⟩
    have hs2 := hsC.call hp hb
    have ho2 := ownsRow_but HO.out hb (fun j hj e => by have := (HO.out.lt j hj).1; rcases e with e | e <;> omega)
    have hsz2 : (w.heap.size + 4) ≤ w2.heap.size := Nat.le_trans hbs hb.size
    clear hp hb hsC ko q0 q1 HO hbs
    have hWa := hs2.new (But.alloc (But.refl (fun _ => False) w2) (.cells #[.bool o.del, .string o.key, .string o.val, .int .u64 (o.cond : Int), .int .u64 (o.ttl : Int)] 83))
    have hWb := hs2.new (But.alloc (But.alloc (But.refl (fun _ => False) w2) (.cells #[.bool o.del, .string o.key, .string o.val, .int .u64 (o.cond : Int), .int .u64 (o.ttl : Int)] 83)) (.cells #[.bool o.del, .string o.key, .string o.val, .int .u64 (o.cond : Int), .int .u64 (o.ttl : Int)] 83))
    have x10 : World.cell? _ ⟨(w.heap.size + 3), 10, none⟩ = some (.slice va k vc) := hWa.cell 10 rfl
    have y10 : World.cell? _ ⟨(w.heap.size + 3), 10, none⟩ = some (.slice va k vc) := hWb.cell 10 rfl
    have HO2 := Lib.hid ho2
    have HS2 := Lib.hid hs2
    clear hWa hWb ho2 hs2
    go_wp2_with (at_builtin; refine wpList_append_onto rfl (.tmp 158) (.tmp 160) _ rfl (w.heap.size + 4) 83 i0 _ 5 56 Try.underlying37 hi0 hz0 hz1 hz2 rfl (by omega) (.slice va k vc) k ((ops9 k p3).flatMap ocells) rfl (ownsRow_alloc (ownsRow_alloc HO2.out _) _) (.slice (some ⟨w2.heap.size + 1, 0, none⟩) 1 1) 1 (ocells o) rfl (sees_cells _ (ocells o) 5 rfl _ _ _ (by simp)) (ocells_one o) (by simp only [maxLen]; omega) (by omega) (by simp; omega) ?_; intro v5 w5 ho5 hon5; obtain ⟨a5, c5, hv5⟩ := own_slice ho5; subst hv5; have hon := (hon5.of_alloc (fun j hj => by have := (HO2.out.lt j hj).2; simp; omega)).of_alloc (fun j hj => (HO2.out.lt j hj).2); have hs5 := HS2.out.grow (base := (w.heap.size + 4)) hon.but (fun j e => (HO2.out.lt j e.symm).1) (by omega) (by omega) (by omega) (by omega) (by omega) (by omega); have c10 : w5.cell? ⟨(w.heap.size + 3), 10, none⟩ = some (.slice va k vc) := hs5.cell 10 rfl; have f10 : w5.frozen? ⟨(w.heap.size + 3), 10, none⟩ = false := hs5.frozen 10)
    have hs6 := hs5.set 10 (.slice a5 (k + 1) c5) (cs' := #[.int .i64 9, .int .u64 0, .int .i64 0, .int .i64 0, .int .i64 0, .int .i64 0, .int .i64 tb, .int .u32 (tg : Int), .int .u32 (ts : Int), .int .u64 (tx : Int), .slice a5 (k + 1) c5, .string ⟨#[]⟩, .bool false, .int .i64 0, .int .i64 0, .int .u32 0]) rfl
    have ho6 : World.ownsRow (w5.setCell ⟨(w.heap.size + 3), 10, none⟩ (.slice a5 (k + 1) c5)) (w.heap.size + 4) 83 5 (.slice a5 (k + 1) c5) (k + 1) ((ops9 (k + 1) p3).flatMap ocells) := by
      refine ownsRow_but (S := fun j => j = (w.heap.size + 3)) ?_ ((But.refl (fun j => j = (w.heap.size + 3)) w5).setCell (p := ⟨(w.heap.size + 3), 10, none⟩) rfl _) (fun j hj e => by have := (ho5.lt j hj).1; omega)
      rw [HSN.out.1, List.flatMap_append]
      simpa using ho5
    have hsz6 : (w.heap.size + 4) ≤ (w5.setCell ⟨(w.heap.size + 3), 10, none⟩ (.slice a5 (k + 1) c5)).heap.size := Nat.le_trans hsz2 (Nat.le_trans hon.grown.size (But.setCell (S := fun j => j = (w.heap.size + 3)) (But.refl _ w5) (p := ⟨(w.heap.size + 3), 10, none⟩) rfl (.slice a5 (k + 1) c5)).size)
    rw [HSN.out.2.2] at hs6
    have HF := Lib.hid (And.intro HSN.out.2.1 (And.intro hs6 (And.intro ho6 hsz6)))
    clear hs5 hs6 ho5 hon5 hon ho6 hsz6 x10 y10 c10 f10
    go_roundw
    case rel => exact ⟨k + 1, a5, c5, bn, by go_num, by omega, HF.out⟩
    case measure => simp [intOf]; omega
end Go.Proofs.Ytbdbbnpkekcefaa.Cmd

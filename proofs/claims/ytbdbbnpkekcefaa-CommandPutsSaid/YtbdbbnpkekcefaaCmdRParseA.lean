/- What the document's Parse answers, a class of tags each. -/
import Derived.Test.YtbdbbnpkekcefaaCmdRKit
namespace Go.Proofs.Ytbdbbnpkekcefaa.Cmd
open Go.Proofs.Ytbdbbnpkekcefaa.Mem Go.Proofs.Ytbdbbnpkekcefaa.Pack
open Go.ChangeShapes Go.WideShapes Go.ChangeAt Go.RowKit
set_option linter.unusedVariables false
set_option linter.unusedSimpArgs false

set_option maxRecDepth 100000 in
set_option maxHeartbeats 8000000 in
theorem rparse_c1a (a : Option Addr) (cap : Nat) (zs : List Int) (w : World) (h : Row w a zs.length zs) (hn : a = none → cap = 0) (hlc : zs.length ≤ cap) (hcm : cap ≤ maxLen) (hl : zs.length ≤ 1073741824) (P : Pos) (hP : P = ⟨zs, false⟩) (hk : (P.num 1 : Int) = 1) :
    Calls Try.prog 8 #[.slice a zs.length cap] w fun e w' => RParseIs zs w e w' := by
  have b1 : Bytes P.zs := by rw [hP]; exact h.2.1
  have hs0 := rparse_start w a cap zs h hn hlc hcm hl
  rw [← hP] at hs0
  have l1 := num1_lt b1
  have k1 := fun w' => rfP_number (w.heap.size + 1) w.heap.size P 1 (by omega) (by omega) w'
  have hgd : good zs = (!bad P && (!(endRq P).short && decide ((endRq P).zs = []))) := by rw [hP]; rfl
  rw [hk] at k1
  obtain ⟨p1, hp1⟩ : ∃ x, x = P.skip 1 := ⟨_, rfl⟩
  have b2 : Bytes p1.zs := by rw [hp1]; exact skip_bytes b1 1
  rw [← hp1] at k1
  have l2 := num8_lt b2
  have k2 := fun u => rfP_number (w.heap.size + 1) w.heap.size p1 8 (by omega) (by omega) u
  obtain ⟨n2, hn2⟩ : ∃ n, n = p1.num 8 := ⟨_, rfl⟩
  obtain ⟨p2, hp2⟩ : ∃ x, x = p1.skip 8 := ⟨_, rfl⟩
  have b3 : Bytes p2.zs := by rw [hp2]; exact skip_bytes b2 8
  rw [← hn2] at k2 l2
  rw [← hp2] at k2
  have l3 := num1_lt b3
  have k3 := fun u => rfP_number (w.heap.size + 1) w.heap.size p2 1 (by omega) (by omega) u
  obtain ⟨n3, hn3⟩ : ∃ n, n = p2.num 1 := ⟨_, rfl⟩
  obtain ⟨p3, hp3⟩ : ∃ x, x = p2.skip 1 := ⟨_, rfl⟩
  have b4 : Bytes p3.zs := by rw [hp3]; exact skip_bytes b3 1
  rw [← hn3] at k3 l3
  rw [← hp3] at k3
  have ka := fun u => rfP_number (w.heap.size + 1) w.heap.size p3 8 (by omega) (by omega) u
  have kb := fun u => rfP_number (w.heap.size + 1) w.heap.size (p3.skip 8) 8 (by omega) (by omega) u
  have kc := fun u => rfP_number (w.heap.size + 1) w.heap.size ((p3.skip 8).skip 8) 8 (by omega) (by omega) u
  have kq := fun u => rquo_any (rdQuo p3) u
  have hza := skip_bytes b4 8
  have hzb := skip_bytes hza 8
  have hqe : rdQuo p3 = ⟨wrap64 ((p3.num 8 : Nat) : Int), wrap64 (((p3.skip 8).num 8 : Nat) : Int), wrap64 ((((p3.skip 8).skip 8).num 8 : Nat) : Int)⟩ := rfl
  obtain ⟨na, hna⟩ : ∃ n, n = p3.num 8 := ⟨_, rfl⟩
  obtain ⟨pa, hpa⟩ : ∃ x, x = p3.skip 8 := ⟨_, rfl⟩
  rw [← hna] at ka hqe
  rw [← hpa] at ka kb kc hza hzb hqe
  obtain ⟨nb, hnb⟩ : ∃ n, n = pa.num 8 := ⟨_, rfl⟩
  obtain ⟨pb, hpb⟩ : ∃ x, x = pa.skip 8 := ⟨_, rfl⟩
  rw [← hnb] at kb hqe
  rw [← hpb] at kb kc hzb hqe
  obtain ⟨nc, hnc⟩ : ∃ n, n = pb.num 8 := ⟨_, rfl⟩
  obtain ⟨p4, hpq⟩ : ∃ x, x = pb.skip 8 := ⟨_, rfl⟩
  have b5 : Bytes p4.zs := by rw [hpq]; exact skip_bytes hzb 8
  rw [← hnc] at kc hqe
  rw [← hpq] at kc
  have hp4 : p4 = endQuo p3 := by unfold endQuo; rw [hpq, hpb, hpa]
  obtain ⟨qq, hn4⟩ : ∃ n, n = rdQuo p3 := ⟨_, rfl⟩
  rw [← hn4] at kq hqe
  obtain ⟨mq, hmq⟩ : ∃ m, m = mayQuo qq := ⟨_, rfl⟩
  rw [← hmq] at kq
  have HMQ := Lib.hid hmq
  have hkc : (P.num 1 : Int) = 1 ∨ (P.num 1 : Int) = 3 := by omega
  have hbad : bad P = (decide (63 < n3) || !mq) := by
    unfold bad
    rw [← hp1, badBody_c1 hkc]
    all_goals try rw [hk]
    all_goals try simp only [← hn2, ← hp2, ← hn3, ← hp3, ← hn4, ← hp4, ← hmq]
  have hend : endRq P = p4 := by
    unfold endRq
    rw [← hp1, endBody_c1 hkc]
    all_goals try rw [hk]
    all_goals try simp only [← hp2, ← hp3, ← hp4]
  have hq : readRq P = ⟨1, n2, (n3 : Int), qq, zeroTok, [], nothing, false, 0, 0, 0⟩ := by
    unfold readRq
    rw [← hp1, rdBody_c1 hkc, hk]
    all_goals try simp only [← hn2, ← hp2, ← hn3, ← hp3, ← hn4, ← hp4]
  rw [hend] at hgd
  unfold RParseIs
  rw [← hP, hq]
  have HG := Lib.hid hgd
  have HBAD := Lib.hid hbad
  clear h hn hlc hcm hl hP hq hkc hgd hbad hend hp1 hn2 hp2 hn3 hp3 hn4 hp4 hmq hpa hpb hpq hna hnb hnc
  subst hqe
  simp only [rv, rcells, zeroQuo, zeroTok, nothing, zeroRq]
  unfold rzero at hs0
  go_enter Try.func8, Try.ntmps8
  have q0 := hs0.pp.c0
  go_wp2_with fail
  clear q0
  refine (k1 _ hs0.pp.rd).mono ?_
  rintro e w1 ⟨rfl, hr, hb⟩
  have hr1 := hs0.read hr hb b2
  clear hr hb hs0 k1
  have cA : w1.cell? ⟨(w.heap.size + 3), 0, none⟩ = some (.int .i64 0) := hr1.cell 0 rfl
  have fA : w1.frozen? ⟨(w.heap.size + 3), 0, none⟩ = false := hr1.frozen 0
  have hs1 := hr1.set 0 (.int .i64 1) (cs' := #[.int .i64 1, .int .u64 0, .int .i64 0, .int .i64 0, .int .i64 0, .int .i64 0, .int .i64 0, .int .u32 0, .int .u32 0, .int .u64 0, .slice none 0 0, .string ⟨#[]⟩, .bool false, .int .i64 0, .int .i64 0, .int .u32 0]) rfl
  clear hr1
  have c0 : World.cell? _ ⟨(w.heap.size + 3), 0, none⟩ = some (.int .i64 1) := hs1.cell 0 rfl
  have q2 := hs1.pp.c0
  go_wp2_with fail
  clear q2
  refine (k2 _ hs1.pp.rd).mono ?_
  rintro e w2 ⟨rfl, hr, hb⟩
  have hr2 := hs1.read hr hb b3
  clear hr hb hs1 k2
  have c1 : w2.cell? ⟨(w.heap.size + 3), 1, none⟩ = some (.int .u64 0) := hr2.cell 1 rfl
  have f1 : w2.frozen? ⟨(w.heap.size + 3), 1, none⟩ = false := hr2.frozen 1
  have hs2 := hr2.set 1 (.int .u64 (n2 : Int)) (cs' := #[.int .i64 1, .int .u64 (n2 : Int), .int .i64 0, .int .i64 0, .int .i64 0, .int .i64 0, .int .i64 0, .int .u32 0, .int .u32 0, .int .u64 0, .slice none 0 0, .string ⟨#[]⟩, .bool false, .int .i64 0, .int .i64 0, .int .u32 0]) rfl
  clear hr2
  try clear c0
  have c0 : World.cell? _ ⟨(w.heap.size + 3), 0, none⟩ = some (.int .i64 1) := hs2.cell 0 rfl
  have q3 := hs2.pp.c0
  go_wp2_with fail
  clear q3
  refine (k3 _ hs2.pp.rd).mono ?_
  rintro e w3 ⟨rfl, hr, hb⟩
  have hr3 := hs2.read hr hb b4
  clear hr hb hs2 k3
  have c2 : w3.cell? ⟨(w.heap.size + 3), 2, none⟩ = some (.int .i64 0) := hr3.cell 2 rfl
  have f2 : w3.frozen? ⟨(w.heap.size + 3), 2, none⟩ = false := hr3.frozen 2
  have hs3 := hr3.set 2 (.int .i64 (n3 : Int)) (cs' := #[.int .i64 1, .int .u64 (n2 : Int), .int .i64 (n3 : Int), .int .i64 0, .int .i64 0, .int .i64 0, .int .i64 0, .int .u32 0, .int .u32 0, .int .u64 0, .slice none 0 0, .string ⟨#[]⟩, .bool false, .int .i64 0, .int .i64 0, .int .u32 0]) rfl
  clear hr3
  have c0 : World.cell? _ ⟨(w.heap.size + 3), 0, none⟩ = some (.int .i64 1) := hs3.cell 0 rfl
  have cb : World.cell? _ ⟨(w.heap.size + 3), 2, none⟩ = some (.int .i64 (n3 : Int)) := hs3.cell 2 rfl
  have q0 := hs3.pp.c0
  have q1 := hs3.pp.c1
  have g1 := hs3.pp.f1
  by_cases hx0 : 63 < n3
  · have d0 : decide ((63 : Int) < (n3 : Int)) = true := decide_eq_true (by omega)
    have HD0 := Lib.hid (show decide (63 < n3) = true from decide_eq_true hx0)
    have hsB := hs3.mark true
    clear hs3 hx0
    go_wp2_with fail
    clear q0 q1 g1 cb
    try clear c0
    have c0 : World.cell? _ ⟨(w.heap.size + 3), 0, none⟩ = some (.int .i64 1) := hsB.cell 0 rfl
    have qa := hsB.pp.c0
    go_wp2_with fail
    clear qa
    refine (ka _ hsB.pp.rd).mono ?_
    rintro e wa ⟨rfl, hr, hb⟩
    have hra := hsB.read hr hb hza
    clear hr hb hsB ka
    have c3 : wa.cell? ⟨(w.heap.size + 3), 3, none⟩ = some (.int .i64 0) := hra.cell 3 rfl
    have f3 : wa.frozen? ⟨(w.heap.size + 3), 3, none⟩ = false := hra.frozen 3
    have hsa := hra.set 3 (.int .i64 (wrap64 (na : Int))) (cs' := #[.int .i64 1, .int .u64 (n2 : Int), .int .i64 (n3 : Int), .int .i64 (wrap64 (na : Int)), .int .i64 0, .int .i64 0, .int .i64 0, .int .u32 0, .int .u32 0, .int .u64 0, .slice none 0 0, .string ⟨#[]⟩, .bool false, .int .i64 0, .int .i64 0, .int .u32 0]) rfl
    clear hra
    have qb := hsa.pp.c0
    go_wp2_with fail
    clear qb
    refine (kb _ hsa.pp.rd).mono ?_
    rintro e wb ⟨rfl, hr, hb⟩
    have hrb := hsa.read hr hb hzb
    clear hr hb hsa kb
    have c4 : wb.cell? ⟨(w.heap.size + 3), 4, none⟩ = some (.int .i64 0) := hrb.cell 4 rfl
    have f4 : wb.frozen? ⟨(w.heap.size + 3), 4, none⟩ = false := hrb.frozen 4
    have hsb := hrb.set 4 (.int .i64 (wrap64 (nb : Int))) (cs' := #[.int .i64 1, .int .u64 (n2 : Int), .int .i64 (n3 : Int), .int .i64 (wrap64 (na : Int)), .int .i64 (wrap64 (nb : Int)), .int .i64 0, .int .i64 0, .int .u32 0, .int .u32 0, .int .u64 0, .slice none 0 0, .string ⟨#[]⟩, .bool false, .int .i64 0, .int .i64 0, .int .u32 0]) rfl
    clear hrb
    have qc := hsb.pp.c0
    go_wp2_with fail
    clear qc
    refine (kc _ hsb.pp.rd).mono ?_
    rintro e wc ⟨rfl, hr, hb⟩
    have hrc := hsb.read hr hb b5
    clear hr hb hsb kc
    have c5 : wc.cell? ⟨(w.heap.size + 3), 5, none⟩ = some (.int .i64 0) := hrc.cell 5 rfl
    have f5 : wc.frozen? ⟨(w.heap.size + 3), 5, none⟩ = false := hrc.frozen 5
    have hsc := hrc.set 5 (.int .i64 (wrap64 (nc : Int))) (cs' := #[.int .i64 1, .int .u64 (n2 : Int), .int .i64 (n3 : Int), .int .i64 (wrap64 (na : Int)), .int .i64 (wrap64 (nb : Int)), .int .i64 (wrap64 (nc : Int)), .int .i64 0, .int .u32 0, .int .u32 0, .int .u64 0, .slice none 0 0, .string ⟨#[]⟩, .bool false, .int .i64 0, .int .i64 0, .int .u32 0]) rfl
    clear hrc
    have x3 : World.cell? _ ⟨(w.heap.size + 3), 3, none⟩ = some (.int .i64 (wrap64 (na : Int))) := hsc.cell 3 rfl
    have x4 : World.cell? _ ⟨(w.heap.size + 3), 4, none⟩ = some (.int .i64 (wrap64 (nb : Int))) := hsc.cell 4 rfl
    have x5 : World.cell? _ ⟨(w.heap.size + 3), 5, none⟩ = some (.int .i64 (wrap64 (nc : Int))) := hsc.cell 5 rfl
    go_wp2_with fail
    clear x3 x4 x5
    refine (kq _).mono ?_
    rintro e wq ⟨rfl, hbq⟩
    have hsq := hsc.new (But.of_new hbq)
    clear hsc kq hbq
    have c0 : World.cell? _ ⟨(w.heap.size + 3), 0, none⟩ = some (.int .i64 1) := hsq.cell 0 rfl
    have q0 := hsq.pp.c0
    have q1 := hsq.pp.c1
    have g1 := hsq.pp.f1
    have hsR := hsq.mark true
    clear hsq
    have c0 : World.cell? _ ⟨(w.heap.size + 3), 0, none⟩ = some (.int .i64 1) := hsR.cell 0 rfl
    have q0 := hsR.pp.c0
    have q1 := hsR.pp.c1
    have HNB := Lib.hid (hsR.res)
    have hone : (rzero : Array Value).all (fun x => x.oneCell') = true := by simp [rzero, Value.oneCell']
    have HONE := Lib.hid hone
    have HSZ := Lib.hid (ref_size.trans (show some 16 = some rzero.size from rfl))
    have HLAST := Lib.hid (hsR.last rzero)
    clear hone hsR
    unfold rzero at HNB HONE HSZ HLAST
    go_wp2_with (refine wpList_store_rowTo rfl 39 _ _ rfl rfl w.heap.size #[.int .i64 0, .int .u64 0, .int .i64 0, .int .i64 0, .int .i64 0, .int .i64 0, .int .i64 0, .int .u32 0, .int .u32 0, .int .u64 0, .slice none 0 0, .string ⟨#[]⟩, .bool false, .int .i64 0, .int .i64 0, .int .u32 0] rfl rfl 39 #[.int .i64 0, .int .u64 0, .int .i64 0, .int .i64 0, .int .i64 0, .int .i64 0, .int .i64 0, .int .u32 0, .int .u32 0, .int .u64 0, .slice none 0 0, .string ⟨#[]⟩, .bool false, .int .i64 0, .int .i64 0, .int .u32 0] HNB.out HSZ.out rfl HONE.out ?_)
    refine bodyPost_ret (results_row_tmp rfl _ _ w.heap.size 39 #[.int .i64 0, .int .u64 0, .int .i64 0, .int .i64 0, .int .i64 0, .int .i64 0, .int .i64 0, .int .u32 0, .int .u32 0, .int .u64 0, .slice none 0 0, .string ⟨#[]⟩, .bool false, .int .i64 0, .int .i64 0, .int .u32 0] (0, 0) _ rfl (setRow_heap _ _ _ _ _ _ HNB.out) Try.underlying39 rfl HSZ.out) rfl ?_
    exact ⟨(HLAST.out.2).below (Nat.le_refl _) (fun k hk => by rcases hk with e | e <;> omega), .inr ⟨by rw [HG.out, HBAD.out, HD0.out]; first | rfl | simp, rfl⟩⟩
  have d0 : decide ((63 : Int) < (n3 : Int)) = false := decide_eq_false (by omega)
  have HD0 := Lib.hid (show decide (63 < n3) = false from decide_eq_false hx0)
  clear hx0
  have hsB := hs3.mark false
  clear hs3
  go_wp2_with fail
  clear q0 q1 g1 cb
  try clear c0
  have c0 : World.cell? _ ⟨(w.heap.size + 3), 0, none⟩ = some (.int .i64 1) := hsB.cell 0 rfl
  have qa := hsB.pp.c0
  go_wp2_with fail
  clear qa
  refine (ka _ hsB.pp.rd).mono ?_
  rintro e wa ⟨rfl, hr, hb⟩
  have hra := hsB.read hr hb hza
  clear hr hb hsB ka
  have c3 : wa.cell? ⟨(w.heap.size + 3), 3, none⟩ = some (.int .i64 0) := hra.cell 3 rfl
  have f3 : wa.frozen? ⟨(w.heap.size + 3), 3, none⟩ = false := hra.frozen 3
  have hsa := hra.set 3 (.int .i64 (wrap64 (na : Int))) (cs' := #[.int .i64 1, .int .u64 (n2 : Int), .int .i64 (n3 : Int), .int .i64 (wrap64 (na : Int)), .int .i64 0, .int .i64 0, .int .i64 0, .int .u32 0, .int .u32 0, .int .u64 0, .slice none 0 0, .string ⟨#[]⟩, .bool false, .int .i64 0, .int .i64 0, .int .u32 0]) rfl
  clear hra
  have qb := hsa.pp.c0
  go_wp2_with fail
  clear qb
  refine (kb _ hsa.pp.rd).mono ?_
  rintro e wb ⟨rfl, hr, hb⟩
  have hrb := hsa.read hr hb hzb
  clear hr hb hsa kb
  have c4 : wb.cell? ⟨(w.heap.size + 3), 4, none⟩ = some (.int .i64 0) := hrb.cell 4 rfl
  have f4 : wb.frozen? ⟨(w.heap.size + 3), 4, none⟩ = false := hrb.frozen 4
  have hsb := hrb.set 4 (.int .i64 (wrap64 (nb : Int))) (cs' := #[.int .i64 1, .int .u64 (n2 : Int), .int .i64 (n3 : Int), .int .i64 (wrap64 (na : Int)), .int .i64 (wrap64 (nb : Int)), .int .i64 0, .int .i64 0, .int .u32 0, .int .u32 0, .int .u64 0, .slice none 0 0, .string ⟨#[]⟩, .bool false, .int .i64 0, .int .i64 0, .int .u32 0]) rfl
  clear hrb
  have qc := hsb.pp.c0
  go_wp2_with fail
  clear qc
  refine (kc _ hsb.pp.rd).mono ?_
  rintro e wc ⟨rfl, hr, hb⟩
  have hrc := hsb.read hr hb b5
  clear hr hb hsb kc
  have c5 : wc.cell? ⟨(w.heap.size + 3), 5, none⟩ = some (.int .i64 0) := hrc.cell 5 rfl
  have f5 : wc.frozen? ⟨(w.heap.size + 3), 5, none⟩ = false := hrc.frozen 5
  have hsc := hrc.set 5 (.int .i64 (wrap64 (nc : Int))) (cs' := #[.int .i64 1, .int .u64 (n2 : Int), .int .i64 (n3 : Int), .int .i64 (wrap64 (na : Int)), .int .i64 (wrap64 (nb : Int)), .int .i64 (wrap64 (nc : Int)), .int .i64 0, .int .u32 0, .int .u32 0, .int .u64 0, .slice none 0 0, .string ⟨#[]⟩, .bool false, .int .i64 0, .int .i64 0, .int .u32 0]) rfl
  clear hrc
  have x3 : World.cell? _ ⟨(w.heap.size + 3), 3, none⟩ = some (.int .i64 (wrap64 (na : Int))) := hsc.cell 3 rfl
  have x4 : World.cell? _ ⟨(w.heap.size + 3), 4, none⟩ = some (.int .i64 (wrap64 (nb : Int))) := hsc.cell 4 rfl
  have x5 : World.cell? _ ⟨(w.heap.size + 3), 5, none⟩ = some (.int .i64 (wrap64 (nc : Int))) := hsc.cell 5 rfl
  go_wp2_with fail
  clear x3 x4 x5
  refine (kq _).mono ?_
  rintro e wq ⟨rfl, hbq⟩
  have hsq := hsc.new (But.of_new hbq)
  clear hsc kq hbq
  have c0 : World.cell? _ ⟨(w.heap.size + 3), 0, none⟩ = some (.int .i64 1) := hsq.cell 0 rfl
  have q0 := hsq.pp.c0
  have q1 := hsq.pp.c1
  have g1 := hsq.pp.f1
  cases mq
  · have hsR := hsq.mark true
    clear hsq
    have c0 : World.cell? _ ⟨(w.heap.size + 3), 0, none⟩ = some (.int .i64 1) := hsR.cell 0 rfl
    have q0 := hsR.pp.c0
    have q1 := hsR.pp.c1
    have HNB := Lib.hid (hsR.res)
    have hone : (rzero : Array Value).all (fun x => x.oneCell') = true := by simp [rzero, Value.oneCell']
    have HONE := Lib.hid hone
    have HSZ := Lib.hid (ref_size.trans (show some 16 = some rzero.size from rfl))
    have HLAST := Lib.hid (hsR.last rzero)
    clear hone hsR
    unfold rzero at HNB HONE HSZ HLAST
    go_wp2_with (refine wpList_store_rowTo rfl 39 _ _ rfl rfl w.heap.size #[.int .i64 0, .int .u64 0, .int .i64 0, .int .i64 0, .int .i64 0, .int .i64 0, .int .i64 0, .int .u32 0, .int .u32 0, .int .u64 0, .slice none 0 0, .string ⟨#[]⟩, .bool false, .int .i64 0, .int .i64 0, .int .u32 0] rfl rfl 39 #[.int .i64 0, .int .u64 0, .int .i64 0, .int .i64 0, .int .i64 0, .int .i64 0, .int .i64 0, .int .u32 0, .int .u32 0, .int .u64 0, .slice none 0 0, .string ⟨#[]⟩, .bool false, .int .i64 0, .int .i64 0, .int .u32 0] HNB.out HSZ.out rfl HONE.out ?_)
    refine bodyPost_ret (results_row_tmp rfl _ _ w.heap.size 39 #[.int .i64 0, .int .u64 0, .int .i64 0, .int .i64 0, .int .i64 0, .int .i64 0, .int .i64 0, .int .u32 0, .int .u32 0, .int .u64 0, .slice none 0 0, .string ⟨#[]⟩, .bool false, .int .i64 0, .int .i64 0, .int .u32 0] (0, 0) _ rfl (setRow_heap _ _ _ _ _ _ HNB.out) Try.underlying39 rfl HSZ.out) rfl ?_
    exact ⟨(HLAST.out.2).below (Nat.le_refl _) (fun k hk => by rcases hk with e | e <;> omega), .inr ⟨by rw [HG.out, HBAD.out, HD0.out]; first | rfl | simp, rfl⟩⟩
  have hsR := hsq.mark false
  clear hsq
  have c0 : World.cell? _ ⟨(w.heap.size + 3), 0, none⟩ = some (.int .i64 1) := hsR.cell 0 rfl
  have q0 := hsR.pp.c0
  have q1 := hsR.pp.c1
  have q2 := Rf.short hsR.pp.rd
  obtain ⟨sh, hsh⟩ : ∃ s, s = p4.short := ⟨_, rfl⟩
  rw [← hsh] at q2
  have HSH := Lib.hid hsh
  have kleft := refLeft_any (w.heap.size + 1) p4.zs p4.short _ hsR.pp.rd
  have HKL := Lib.hid kleft
  clear hsh kleft
  cases sh
  rotate_left
  · have HNB := Lib.hid (hsR.res)
    have hone : (rzero : Array Value).all (fun x => x.oneCell') = true := by simp [rzero, Value.oneCell']
    have HONE := Lib.hid hone
    have HSZ := Lib.hid (ref_size.trans (show some 16 = some rzero.size from rfl))
    have HLAST := Lib.hid (hsR.last rzero)
    clear hone hsR HKL
    unfold rzero at HNB HONE HSZ HLAST
    go_wp2_with (refine wpList_store_rowTo rfl 39 _ _ rfl rfl w.heap.size #[.int .i64 0, .int .u64 0, .int .i64 0, .int .i64 0, .int .i64 0, .int .i64 0, .int .i64 0, .int .u32 0, .int .u32 0, .int .u64 0, .slice none 0 0, .string ⟨#[]⟩, .bool false, .int .i64 0, .int .i64 0, .int .u32 0] rfl rfl 39 #[.int .i64 0, .int .u64 0, .int .i64 0, .int .i64 0, .int .i64 0, .int .i64 0, .int .i64 0, .int .u32 0, .int .u32 0, .int .u64 0, .slice none 0 0, .string ⟨#[]⟩, .bool false, .int .i64 0, .int .i64 0, .int .u32 0] HNB.out HSZ.out rfl HONE.out ?_)
    refine bodyPost_ret (results_row_tmp rfl _ _ w.heap.size 39 #[.int .i64 0, .int .u64 0, .int .i64 0, .int .i64 0, .int .i64 0, .int .i64 0, .int .i64 0, .int .u32 0, .int .u32 0, .int .u64 0, .slice none 0 0, .string ⟨#[]⟩, .bool false, .int .i64 0, .int .i64 0, .int .u32 0] (0, 0) _ rfl (setRow_heap _ _ _ _ _ _ HNB.out) Try.underlying39 rfl HSZ.out) rfl ?_
    exact ⟨(HLAST.out.2).below (Nat.le_refl _) (fun k hk => by rcases hk with e | e <;> omega), .inr ⟨by rw [HG.out, HBAD.out, HD0.out, ← HSH.out]; simp, rfl⟩⟩
  go_wp2_with fail
  refine HKL.out.mono ?_
  rintro e wL ⟨rfl, nL, rfl⟩
  have hsL := hsR.new (But.drewN (But.refl (fun _ => False) _) nL)
  clear hsR HKL q0 q1 q2
  by_cases hz : p4.zs.length = 0
  rotate_left
  · have hz1 : decide ((0 : Int) < (p4.zs.length : Int)) = true := decide_eq_true (by omega)
    have hpos : 0 < p4.zs.length := by omega
    have hposI : (0 : Int) < (p4.zs.length : Int) := by omega
    have HZN := Lib.hid (show decide (p4.zs = []) = false from decide_eq_false (fun e => hz (by rw [e]; rfl)))
    clear hz
    have HNB := Lib.hid (hsL.res)
    have hone : (rzero : Array Value).all (fun x => x.oneCell') = true := by simp [rzero, Value.oneCell']
    have HONE := Lib.hid hone
    have HSZ := Lib.hid (ref_size.trans (show some 16 = some rzero.size from rfl))
    have HLAST := Lib.hid (hsL.last rzero)
    clear hone hsL
    unfold rzero at HNB HONE HSZ HLAST
    go_wp2_with (refine wpList_store_rowTo rfl 39 _ _ rfl rfl w.heap.size #[.int .i64 0, .int .u64 0, .int .i64 0, .int .i64 0, .int .i64 0, .int .i64 0, .int .i64 0, .int .u32 0, .int .u32 0, .int .u64 0, .slice none 0 0, .string ⟨#[]⟩, .bool false, .int .i64 0, .int .i64 0, .int .u32 0] rfl rfl 39 #[.int .i64 0, .int .u64 0, .int .i64 0, .int .i64 0, .int .i64 0, .int .i64 0, .int .i64 0, .int .u32 0, .int .u32 0, .int .u64 0, .slice none 0 0, .string ⟨#[]⟩, .bool false, .int .i64 0, .int .i64 0, .int .u32 0] HNB.out HSZ.out rfl HONE.out ?_)
    refine bodyPost_ret (results_row_tmp rfl _ _ w.heap.size 39 #[.int .i64 0, .int .u64 0, .int .i64 0, .int .i64 0, .int .i64 0, .int .i64 0, .int .i64 0, .int .u32 0, .int .u32 0, .int .u64 0, .slice none 0 0, .string ⟨#[]⟩, .bool false, .int .i64 0, .int .i64 0, .int .u32 0] (0, 0) _ rfl (setRow_heap _ _ _ _ _ _ HNB.out) Try.underlying39 rfl HSZ.out) rfl ?_
    exact ⟨(HLAST.out.2).below (Nat.le_refl _) (fun k hk => by rcases hk with e | e <;> omega), .inr ⟨by rw [HG.out, HBAD.out, HD0.out, HZN.out]; simp, rfl⟩⟩
  have hz1 : decide ((0 : Int) < (p4.zs.length : Int)) = false := decide_eq_false (by omega)
  have HZN := Lib.hid (show decide (p4.zs = []) = true from decide_eq_true (List.eq_nil_of_length_eq_zero hz))
  rw [hz]
  clear hz hz1
  have HBX := Lib.hid (show _ = _ from hsL.box)
  have HRX := Lib.hid (show _ = _ from hsL.res)
  have HLAST := Lib.hid (hsL.last #[.int .i64 1, .int .u64 (n2 : Int), .int .i64 (n3 : Int), .int .i64 (wrap64 (na : Int)), .int .i64 (wrap64 (nb : Int)), .int .i64 (wrap64 (nc : Int)), .int .i64 0, .int .u32 0, .int .u32 0, .int .u64 0, .slice none 0 0, .string ⟨#[]⟩, .bool false, .int .i64 0, .int .i64 0, .int .u32 0])

  clear hsL
  have hone : (#[.int .i64 1, .int .u64 (n2 : Int), .int .i64 (n3 : Int), .int .i64 (wrap64 (na : Int)), .int .i64 (wrap64 (nb : Int)), .int .i64 (wrap64 (nc : Int)), .int .i64 0, .int .u32 0, .int .u32 0, .int .u64 0, .slice none 0 0, .string ⟨#[]⟩, .bool false, .int .i64 0, .int .i64 0, .int .u32 0] : Array Value).all (fun x => x.oneCell') = true := by simp [Value.oneCell']
  have HONE := Lib.hid hone
  clear hone
  have HOLD := Lib.hid (show (rzero : Array Value).size = (#[.int .i64 1, .int .u64 (n2 : Int), .int .i64 (n3 : Int), .int .i64 (wrap64 (na : Int)), .int .i64 (wrap64 (nb : Int)), .int .i64 (wrap64 (nc : Int)), .int .i64 0, .int .u32 0, .int .u32 0, .int .u64 0, .slice none 0 0, .string ⟨#[]⟩, .bool false, .int .i64 0, .int .i64 0, .int .u32 0] : Array Value).size by simp [rzero])
  have HSZ := Lib.hid (ref_size.trans (show some 16 = some (#[.int .i64 1, .int .u64 (n2 : Int), .int .i64 (n3 : Int), .int .i64 (wrap64 (na : Int)), .int .i64 (wrap64 (nb : Int)), .int .i64 (wrap64 (nc : Int)), .int .i64 0, .int .u32 0, .int .u32 0, .int .u64 0, .slice none 0 0, .string ⟨#[]⟩, .bool false, .int .i64 0, .int .i64 0, .int .u32 0] : Array Value).size by simp))
  go_wp2_with (first
    | (refine wpList_load_row rfl 39 _ rfl (w.heap.size + 3) rfl 39 _ (0, 0) _ HBX.out Try.underlying39 rfl HSZ.out ?_)
    | (refine wpList_store_rowTo rfl 39 _ _ rfl rfl w.heap.size #[.int .i64 1, .int .u64 (n2 : Int), .int .i64 (n3 : Int), .int .i64 (wrap64 (na : Int)), .int .i64 (wrap64 (nb : Int)), .int .i64 (wrap64 (nc : Int)), .int .i64 0, .int .u32 0, .int .u32 0, .int .u64 0, .slice none 0 0, .string ⟨#[]⟩, .bool false, .int .i64 0, .int .i64 0, .int .u32 0] rfl rfl 39 rzero HRX.out HSZ.out HOLD.out HONE.out ?_))
  refine bodyPost_ret (results_row_tmp rfl _ _ w.heap.size 39 #[.int .i64 1, .int .u64 (n2 : Int), .int .i64 (n3 : Int), .int .i64 (wrap64 (na : Int)), .int .i64 (wrap64 (nb : Int)), .int .i64 (wrap64 (nc : Int)), .int .i64 0, .int .u32 0, .int .u32 0, .int .u64 0, .slice none 0 0, .string ⟨#[]⟩, .bool false, .int .i64 0, .int .i64 0, .int .u32 0] (0, 0) _ rfl (setRow_heap _ _ _ _ _ _ HRX.out) Try.underlying39 rfl HSZ.out) rfl ?_
  have hwb : Below w.heap.size w _ := (HLAST.out.2).below (Nat.le_refl _) (fun k hk => by rcases hk with e | e <;> omega)
  exact ⟨hwb, .inl ⟨by rw [HG.out, HBAD.out, HD0.out, ← HSH.out, HZN.out]; rfl, _, rfl, OpsAt.nil _⟩⟩
set_option maxRecDepth 100000 in
set_option maxHeartbeats 8000000 in
theorem rparse_c1b (a : Option Addr) (cap : Nat) (zs : List Int) (w : World) (h : Row w a zs.length zs) (hn : a = none → cap = 0) (hlc : zs.length ≤ cap) (hcm : cap ≤ maxLen) (hl : zs.length ≤ 1073741824) (P : Pos) (hP : P = ⟨zs, false⟩) (hk : (P.num 1 : Int) = 3) :
    Calls Try.prog 8 #[.slice a zs.length cap] w fun e w' => RParseIs zs w e w' := by
  have b1 : Bytes P.zs := by rw [hP]; exact h.2.1
  have hs0 := rparse_start w a cap zs h hn hlc hcm hl
  rw [← hP] at hs0
  have l1 := num1_lt b1
  have k1 := fun w' => rfP_number (w.heap.size + 1) w.heap.size P 1 (by omega) (by omega) w'
  have hgd : good zs = (!bad P && (!(endRq P).short && decide ((endRq P).zs = []))) := by rw [hP]; rfl
  rw [hk] at k1
  obtain ⟨p1, hp1⟩ : ∃ x, x = P.skip 1 := ⟨_, rfl⟩
  have b2 : Bytes p1.zs := by rw [hp1]; exact skip_bytes b1 1
  rw [← hp1] at k1
  have l2 := num8_lt b2
  have k2 := fun u => rfP_number (w.heap.size + 1) w.heap.size p1 8 (by omega) (by omega) u
  obtain ⟨n2, hn2⟩ : ∃ n, n = p1.num 8 := ⟨_, rfl⟩
  obtain ⟨p2, hp2⟩ : ∃ x, x = p1.skip 8 := ⟨_, rfl⟩
  have b3 : Bytes p2.zs := by rw [hp2]; exact skip_bytes b2 8
  rw [← hn2] at k2 l2
  rw [← hp2] at k2
  have l3 := num1_lt b3
  have k3 := fun u => rfP_number (w.heap.size + 1) w.heap.size p2 1 (by omega) (by omega) u
  obtain ⟨n3, hn3⟩ : ∃ n, n = p2.num 1 := ⟨_, rfl⟩
  obtain ⟨p3, hp3⟩ : ∃ x, x = p2.skip 1 := ⟨_, rfl⟩
  have b4 : Bytes p3.zs := by rw [hp3]; exact skip_bytes b3 1
  rw [← hn3] at k3 l3
  rw [← hp3] at k3
  have ka := fun u => rfP_number (w.heap.size + 1) w.heap.size p3 8 (by omega) (by omega) u
  have kb := fun u => rfP_number (w.heap.size + 1) w.heap.size (p3.skip 8) 8 (by omega) (by omega) u
  have kc := fun u => rfP_number (w.heap.size + 1) w.heap.size ((p3.skip 8).skip 8) 8 (by omega) (by omega) u
  have kq := fun u => rquo_any (rdQuo p3) u
  have hza := skip_bytes b4 8
  have hzb := skip_bytes hza 8
  have hqe : rdQuo p3 = ⟨wrap64 ((p3.num 8 : Nat) : Int), wrap64 (((p3.skip 8).num 8 : Nat) : Int), wrap64 ((((p3.skip 8).skip 8).num 8 : Nat) : Int)⟩ := rfl
  obtain ⟨na, hna⟩ : ∃ n, n = p3.num 8 := ⟨_, rfl⟩
  obtain ⟨pa, hpa⟩ : ∃ x, x = p3.skip 8 := ⟨_, rfl⟩
  rw [← hna] at ka hqe
  rw [← hpa] at ka kb kc hza hzb hqe
  obtain ⟨nb, hnb⟩ : ∃ n, n = pa.num 8 := ⟨_, rfl⟩
  obtain ⟨pb, hpb⟩ : ∃ x, x = pa.skip 8 := ⟨_, rfl⟩
  rw [← hnb] at kb hqe
  rw [← hpb] at kb kc hzb hqe
  obtain ⟨nc, hnc⟩ : ∃ n, n = pb.num 8 := ⟨_, rfl⟩
  obtain ⟨p4, hpq⟩ : ∃ x, x = pb.skip 8 := ⟨_, rfl⟩
  have b5 : Bytes p4.zs := by rw [hpq]; exact skip_bytes hzb 8
  rw [← hnc] at kc hqe
  rw [← hpq] at kc
  have hp4 : p4 = endQuo p3 := by unfold endQuo; rw [hpq, hpb, hpa]
  obtain ⟨qq, hn4⟩ : ∃ n, n = rdQuo p3 := ⟨_, rfl⟩
  rw [← hn4] at kq hqe
  obtain ⟨mq, hmq⟩ : ∃ m, m = mayQuo qq := ⟨_, rfl⟩
  rw [← hmq] at kq
  have HMQ := Lib.hid hmq
  have hkc : (P.num 1 : Int) = 1 ∨ (P.num 1 : Int) = 3 := by omega
  have hbad : bad P = (decide (63 < n3) || !mq) := by
    unfold bad
    rw [← hp1, badBody_c1 hkc]
    all_goals try rw [hk]
    all_goals try simp only [← hn2, ← hp2, ← hn3, ← hp3, ← hn4, ← hp4, ← hmq]
  have hend : endRq P = p4 := by
    unfold endRq
    rw [← hp1, endBody_c1 hkc]
    all_goals try rw [hk]
    all_goals try simp only [← hp2, ← hp3, ← hp4]
  have hq : readRq P = ⟨3, n2, (n3 : Int), qq, zeroTok, [], nothing, false, 0, 0, 0⟩ := by
    unfold readRq
    rw [← hp1, rdBody_c1 hkc, hk]
    all_goals try simp only [← hn2, ← hp2, ← hn3, ← hp3, ← hn4, ← hp4]
  rw [hend] at hgd
  unfold RParseIs
  rw [← hP, hq]
  have HG := Lib.hid hgd
  have HBAD := Lib.hid hbad
  clear h hn hlc hcm hl hP hq hkc hgd hbad hend hp1 hn2 hp2 hn3 hp3 hn4 hp4 hmq hpa hpb hpq hna hnb hnc
  subst hqe
  simp only [rv, rcells, zeroQuo, zeroTok, nothing, zeroRq]
  unfold rzero at hs0
  go_enter Try.func8, Try.ntmps8
  have q0 := hs0.pp.c0
  go_wp2_with fail
  clear q0
  refine (k1 _ hs0.pp.rd).mono ?_
  rintro e w1 ⟨rfl, hr, hb⟩
  have hr1 := hs0.read hr hb b2
  clear hr hb hs0 k1
  have cA : w1.cell? ⟨(w.heap.size + 3), 0, none⟩ = some (.int .i64 0) := hr1.cell 0 rfl
  have fA : w1.frozen? ⟨(w.heap.size + 3), 0, none⟩ = false := hr1.frozen 0
  have hs1 := hr1.set 0 (.int .i64 3) (cs' := #[.int .i64 3, .int .u64 0, .int .i64 0, .int .i64 0, .int .i64 0, .int .i64 0, .int .i64 0, .int .u32 0, .int .u32 0, .int .u64 0, .slice none 0 0, .string ⟨#[]⟩, .bool false, .int .i64 0, .int .i64 0, .int .u32 0]) rfl
  clear hr1
  have c0 : World.cell? _ ⟨(w.heap.size + 3), 0, none⟩ = some (.int .i64 3) := hs1.cell 0 rfl
  have q2 := hs1.pp.c0
  go_wp2_with fail
  clear q2
  refine (k2 _ hs1.pp.rd).mono ?_
  rintro e w2 ⟨rfl, hr, hb⟩
  have hr2 := hs1.read hr hb b3
  clear hr hb hs1 k2
  have c1 : w2.cell? ⟨(w.heap.size + 3), 1, none⟩ = some (.int .u64 0) := hr2.cell 1 rfl
  have f1 : w2.frozen? ⟨(w.heap.size + 3), 1, none⟩ = false := hr2.frozen 1
  have hs2 := hr2.set 1 (.int .u64 (n2 : Int)) (cs' := #[.int .i64 3, .int .u64 (n2 : Int), .int .i64 0, .int .i64 0, .int .i64 0, .int .i64 0, .int .i64 0, .int .u32 0, .int .u32 0, .int .u64 0, .slice none 0 0, .string ⟨#[]⟩, .bool false, .int .i64 0, .int .i64 0, .int .u32 0]) rfl
  clear hr2
  try clear c0
  have c0 : World.cell? _ ⟨(w.heap.size + 3), 0, none⟩ = some (.int .i64 3) := hs2.cell 0 rfl
  have q3 := hs2.pp.c0
  go_wp2_with fail
  clear q3
  refine (k3 _ hs2.pp.rd).mono ?_
  rintro e w3 ⟨rfl, hr, hb⟩
  have hr3 := hs2.read hr hb b4
  clear hr hb hs2 k3
  have c2 : w3.cell? ⟨(w.heap.size + 3), 2, none⟩ = some (.int .i64 0) := hr3.cell 2 rfl
  have f2 : w3.frozen? ⟨(w.heap.size + 3), 2, none⟩ = false := hr3.frozen 2
  have hs3 := hr3.set 2 (.int .i64 (n3 : Int)) (cs' := #[.int .i64 3, .int .u64 (n2 : Int), .int .i64 (n3 : Int), .int .i64 0, .int .i64 0, .int .i64 0, .int .i64 0, .int .u32 0, .int .u32 0, .int .u64 0, .slice none 0 0, .string ⟨#[]⟩, .bool false, .int .i64 0, .int .i64 0, .int .u32 0]) rfl
  clear hr3
  have c0 : World.cell? _ ⟨(w.heap.size + 3), 0, none⟩ = some (.int .i64 3) := hs3.cell 0 rfl
  have cb : World.cell? _ ⟨(w.heap.size + 3), 2, none⟩ = some (.int .i64 (n3 : Int)) := hs3.cell 2 rfl
  have q0 := hs3.pp.c0
  have q1 := hs3.pp.c1
  have g1 := hs3.pp.f1
  by_cases hx0 : 63 < n3
  · have d0 : decide ((63 : Int) < (n3 : Int)) = true := decide_eq_true (by omega)
    have HD0 := Lib.hid (show decide (63 < n3) = true from decide_eq_true hx0)
    have hsB := hs3.mark true
    clear hs3 hx0
    go_wp2_with fail
    clear q0 q1 g1 cb
    try clear c0
    have c0 : World.cell? _ ⟨(w.heap.size + 3), 0, none⟩ = some (.int .i64 3) := hsB.cell 0 rfl
    have qa := hsB.pp.c0
    go_wp2_with fail
    clear qa
    refine (ka _ hsB.pp.rd).mono ?_
    rintro e wa ⟨rfl, hr, hb⟩
    have hra := hsB.read hr hb hza
    clear hr hb hsB ka
    have c3 : wa.cell? ⟨(w.heap.size + 3), 3, none⟩ = some (.int .i64 0) := hra.cell 3 rfl
    have f3 : wa.frozen? ⟨(w.heap.size + 3), 3, none⟩ = false := hra.frozen 3
    have hsa := hra.set 3 (.int .i64 (wrap64 (na : Int))) (cs' := #[.int .i64 3, .int .u64 (n2 : Int), .int .i64 (n3 : Int), .int .i64 (wrap64 (na : Int)), .int .i64 0, .int .i64 0, .int .i64 0, .int .u32 0, .int .u32 0, .int .u64 0, .slice none 0 0, .string ⟨#[]⟩, .bool false, .int .i64 0, .int .i64 0, .int .u32 0]) rfl
    clear hra
    have qb := hsa.pp.c0
    go_wp2_with fail
    clear qb
    refine (kb _ hsa.pp.rd).mono ?_
    rintro e wb ⟨rfl, hr, hb⟩
    have hrb := hsa.read hr hb hzb
    clear hr hb hsa kb
    have c4 : wb.cell? ⟨(w.heap.size + 3), 4, none⟩ = some (.int .i64 0) := hrb.cell 4 rfl
    have f4 : wb.frozen? ⟨(w.heap.size + 3), 4, none⟩ = false := hrb.frozen 4
    have hsb := hrb.set 4 (.int .i64 (wrap64 (nb : Int))) (cs' := #[.int .i64 3, .int .u64 (n2 : Int), .int .i64 (n3 : Int), .int .i64 (wrap64 (na : Int)), .int .i64 (wrap64 (nb : Int)), .int .i64 0, .int .i64 0, .int .u32 0, .int .u32 0, .int .u64 0, .slice none 0 0, .string ⟨#[]⟩, .bool false, .int .i64 0, .int .i64 0, .int .u32 0]) rfl
    clear hrb
    have qc := hsb.pp.c0
    go_wp2_with fail
    clear qc
    refine (kc _ hsb.pp.rd).mono ?_
    rintro e wc ⟨rfl, hr, hb⟩
    have hrc := hsb.read hr hb b5
    clear hr hb hsb kc
    have c5 : wc.cell? ⟨(w.heap.size + 3), 5, none⟩ = some (.int .i64 0) := hrc.cell 5 rfl
    have f5 : wc.frozen? ⟨(w.heap.size + 3), 5, none⟩ = false := hrc.frozen 5
    have hsc := hrc.set 5 (.int .i64 (wrap64 (nc : Int))) (cs' := #[.int .i64 3, .int .u64 (n2 : Int), .int .i64 (n3 : Int), .int .i64 (wrap64 (na : Int)), .int .i64 (wrap64 (nb : Int)), .int .i64 (wrap64 (nc : Int)), .int .i64 0, .int .u32 0, .int .u32 0, .int .u64 0, .slice none 0 0, .string ⟨#[]⟩, .bool false, .int .i64 0, .int .i64 0, .int .u32 0]) rfl
    clear hrc
    have x3 : World.cell? _ ⟨(w.heap.size + 3), 3, none⟩ = some (.int .i64 (wrap64 (na : Int))) := hsc.cell 3 rfl
    have x4 : World.cell? _ ⟨(w.heap.size + 3), 4, none⟩ = some (.int .i64 (wrap64 (nb : Int))) := hsc.cell 4 rfl
    have x5 : World.cell? _ ⟨(w.heap.size + 3), 5, none⟩ = some (.int .i64 (wrap64 (nc : Int))) := hsc.cell 5 rfl
    go_wp2_with fail
    clear x3 x4 x5
    refine (kq _).mono ?_
    rintro e wq ⟨rfl, hbq⟩
    have hsq := hsc.new (But.of_new hbq)
    clear hsc kq hbq
    have c0 : World.cell? _ ⟨(w.heap.size + 3), 0, none⟩ = some (.int .i64 3) := hsq.cell 0 rfl
    have q0 := hsq.pp.c0
    have q1 := hsq.pp.c1
    have g1 := hsq.pp.f1
    have hsR := hsq.mark true
    clear hsq
    have c0 : World.cell? _ ⟨(w.heap.size + 3), 0, none⟩ = some (.int .i64 3) := hsR.cell 0 rfl
    have q0 := hsR.pp.c0
    have q1 := hsR.pp.c1
    have HNB := Lib.hid (hsR.res)
    have hone : (rzero : Array Value).all (fun x => x.oneCell') = true := by simp [rzero, Value.oneCell']
    have HONE := Lib.hid hone
    have HSZ := Lib.hid (ref_size.trans (show some 16 = some rzero.size from rfl))
    have HLAST := Lib.hid (hsR.last rzero)
    clear hone hsR
    unfold rzero at HNB HONE HSZ HLAST
    go_wp2_with (refine wpList_store_rowTo rfl 39 _ _ rfl rfl w.heap.size #[.int .i64 0, .int .u64 0, .int .i64 0, .int .i64 0, .int .i64 0, .int .i64 0, .int .i64 0, .int .u32 0, .int .u32 0, .int .u64 0, .slice none 0 0, .string ⟨#[]⟩, .bool false, .int .i64 0, .int .i64 0, .int .u32 0] rfl rfl 39 #[.int .i64 0, .int .u64 0, .int .i64 0, .int .i64 0, .int .i64 0, .int .i64 0, .int .i64 0, .int .u32 0, .int .u32 0, .int .u64 0, .slice none 0 0, .string ⟨#[]⟩, .bool false, .int .i64 0, .int .i64 0, .int .u32 0] HNB.out HSZ.out rfl HONE.out ?_)
    refine bodyPost_ret (results_row_tmp rfl _ _ w.heap.size 39 #[.int .i64 0, .int .u64 0, .int .i64 0, .int .i64 0, .int .i64 0, .int .i64 0, .int .i64 0, .int .u32 0, .int .u32 0, .int .u64 0, .slice none 0 0, .string ⟨#[]⟩, .bool false, .int .i64 0, .int .i64 0, .int .u32 0] (0, 0) _ rfl (setRow_heap _ _ _ _ _ _ HNB.out) Try.underlying39 rfl HSZ.out) rfl ?_
    exact ⟨(HLAST.out.2).below (Nat.le_refl _) (fun k hk => by rcases hk with e | e <;> omega), .inr ⟨by rw [HG.out, HBAD.out, HD0.out]; first | rfl | simp, rfl⟩⟩
  have d0 : decide ((63 : Int) < (n3 : Int)) = false := decide_eq_false (by omega)
  have HD0 := Lib.hid (show decide (63 < n3) = false from decide_eq_false hx0)
  clear hx0
  have hsB := hs3.mark false
  clear hs3
  go_wp2_with fail
  clear q0 q1 g1 cb
  try clear c0
  have c0 : World.cell? _ ⟨(w.heap.size + 3), 0, none⟩ = some (.int .i64 3) := hsB.cell 0 rfl
  have qa := hsB.pp.c0
  go_wp2_with fail
  clear qa
  refine (ka _ hsB.pp.rd).mono ?_
  rintro e wa ⟨rfl, hr, hb⟩
  have hra := hsB.read hr hb hza
  clear hr hb hsB ka
  have c3 : wa.cell? ⟨(w.heap.size + 3), 3, none⟩ = some (.int .i64 0) := hra.cell 3 rfl
  have f3 : wa.frozen? ⟨(w.heap.size + 3), 3, none⟩ = false := hra.frozen 3
  have hsa := hra.set 3 (.int .i64 (wrap64 (na : Int))) (cs' := #[.int .i64 3, .int .u64 (n2 : Int), .int .i64 (n3 : Int), .int .i64 (wrap64 (na : Int)), .int .i64 0, .int .i64 0, .int .i64 0, .int .u32 0, .int .u32 0, .int .u64 0, .slice none 0 0, .string ⟨#[]⟩, .bool false, .int .i64 0, .int .i64 0, .int .u32 0]) rfl
  clear hra
  have qb := hsa.pp.c0
  go_wp2_with fail
  clear qb
  refine (kb _ hsa.pp.rd).mono ?_
  rintro e wb ⟨rfl, hr, hb⟩
  have hrb := hsa.read hr hb hzb
  clear hr hb hsa kb
  have c4 : wb.cell? ⟨(w.heap.size + 3), 4, none⟩ = some (.int .i64 0) := hrb.cell 4 rfl
  have f4 : wb.frozen? ⟨(w.heap.size + 3), 4, none⟩ = false := hrb.frozen 4
  have hsb := hrb.set 4 (.int .i64 (wrap64 (nb : Int))) (cs' := #[.int .i64 3, .int .u64 (n2 : Int), .int .i64 (n3 : Int), .int .i64 (wrap64 (na : Int)), .int .i64 (wrap64 (nb : Int)), .int .i64 0, .int .i64 0, .int .u32 0, .int .u32 0, .int .u64 0, .slice none 0 0, .string ⟨#[]⟩, .bool false, .int .i64 0, .int .i64 0, .int .u32 0]) rfl
  clear hrb
  have qc := hsb.pp.c0
  go_wp2_with fail
  clear qc
  refine (kc _ hsb.pp.rd).mono ?_
  rintro e wc ⟨rfl, hr, hb⟩
  have hrc := hsb.read hr hb b5
  clear hr hb hsb kc
  have c5 : wc.cell? ⟨(w.heap.size + 3), 5, none⟩ = some (.int .i64 0) := hrc.cell 5 rfl
  have f5 : wc.frozen? ⟨(w.heap.size + 3), 5, none⟩ = false := hrc.frozen 5
  have hsc := hrc.set 5 (.int .i64 (wrap64 (nc : Int))) (cs' := #[.int .i64 3, .int .u64 (n2 : Int), .int .i64 (n3 : Int), .int .i64 (wrap64 (na : Int)), .int .i64 (wrap64 (nb : Int)), .int .i64 (wrap64 (nc : Int)), .int .i64 0, .int .u32 0, .int .u32 0, .int .u64 0, .slice none 0 0, .string ⟨#[]⟩, .bool false, .int .i64 0, .int .i64 0, .int .u32 0]) rfl
  clear hrc
  have x3 : World.cell? _ ⟨(w.heap.size + 3), 3, none⟩ = some (.int .i64 (wrap64 (na : Int))) := hsc.cell 3 rfl
  have x4 : World.cell? _ ⟨(w.heap.size + 3), 4, none⟩ = some (.int .i64 (wrap64 (nb : Int))) := hsc.cell 4 rfl
  have x5 : World.cell? _ ⟨(w.heap.size + 3), 5, none⟩ = some (.int .i64 (wrap64 (nc : Int))) := hsc.cell 5 rfl
  go_wp2_with fail
  clear x3 x4 x5
  refine (kq _).mono ?_
  rintro e wq ⟨rfl, hbq⟩
  have hsq := hsc.new (But.of_new hbq)
  clear hsc kq hbq
  have c0 : World.cell? _ ⟨(w.heap.size + 3), 0, none⟩ = some (.int .i64 3) := hsq.cell 0 rfl
  have q0 := hsq.pp.c0
  have q1 := hsq.pp.c1
  have g1 := hsq.pp.f1
  cases mq
  · have hsR := hsq.mark true
    clear hsq
    have c0 : World.cell? _ ⟨(w.heap.size + 3), 0, none⟩ = some (.int .i64 3) := hsR.cell 0 rfl
    have q0 := hsR.pp.c0
    have q1 := hsR.pp.c1
    have HNB := Lib.hid (hsR.res)
    have hone : (rzero : Array Value).all (fun x => x.oneCell') = true := by simp [rzero, Value.oneCell']
    have HONE := Lib.hid hone
    have HSZ := Lib.hid (ref_size.trans (show some 16 = some rzero.size from rfl))
    have HLAST := Lib.hid (hsR.last rzero)
    clear hone hsR
    unfold rzero at HNB HONE HSZ HLAST
    go_wp2_with (refine wpList_store_rowTo rfl 39 _ _ rfl rfl w.heap.size #[.int .i64 0, .int .u64 0, .int .i64 0, .int .i64 0, .int .i64 0, .int .i64 0, .int .i64 0, .int .u32 0, .int .u32 0, .int .u64 0, .slice none 0 0, .string ⟨#[]⟩, .bool false, .int .i64 0, .int .i64 0, .int .u32 0] rfl rfl 39 #[.int .i64 0, .int .u64 0, .int .i64 0, .int .i64 0, .int .i64 0, .int .i64 0, .int .i64 0, .int .u32 0, .int .u32 0, .int .u64 0, .slice none 0 0, .string ⟨#[]⟩, .bool false, .int .i64 0, .int .i64 0, .int .u32 0] HNB.out HSZ.out rfl HONE.out ?_)
    refine bodyPost_ret (results_row_tmp rfl _ _ w.heap.size 39 #[.int .i64 0, .int .u64 0, .int .i64 0, .int .i64 0, .int .i64 0, .int .i64 0, .int .i64 0, .int .u32 0, .int .u32 0, .int .u64 0, .slice none 0 0, .string ⟨#[]⟩, .bool false, .int .i64 0, .int .i64 0, .int .u32 0] (0, 0) _ rfl (setRow_heap _ _ _ _ _ _ HNB.out) Try.underlying39 rfl HSZ.out) rfl ?_
    exact ⟨(HLAST.out.2).below (Nat.le_refl _) (fun k hk => by rcases hk with e | e <;> omega), .inr ⟨by rw [HG.out, HBAD.out, HD0.out]; first | rfl | simp, rfl⟩⟩
  have hsR := hsq.mark false
  clear hsq
  have c0 : World.cell? _ ⟨(w.heap.size + 3), 0, none⟩ = some (.int .i64 3) := hsR.cell 0 rfl
  have q0 := hsR.pp.c0
  have q1 := hsR.pp.c1
  have q2 := Rf.short hsR.pp.rd
  obtain ⟨sh, hsh⟩ : ∃ s, s = p4.short := ⟨_, rfl⟩
  rw [← hsh] at q2
  have HSH := Lib.hid hsh
  have kleft := refLeft_any (w.heap.size + 1) p4.zs p4.short _ hsR.pp.rd
  have HKL := Lib.hid kleft
  clear hsh kleft
  cases sh
  rotate_left
  · have HNB := Lib.hid (hsR.res)
    have hone : (rzero : Array Value).all (fun x => x.oneCell') = true := by simp [rzero, Value.oneCell']
    have HONE := Lib.hid hone
    have HSZ := Lib.hid (ref_size.trans (show some 16 = some rzero.size from rfl))
    have HLAST := Lib.hid (hsR.last rzero)
    clear hone hsR HKL
    unfold rzero at HNB HONE HSZ HLAST
    go_wp2_with (refine wpList_store_rowTo rfl 39 _ _ rfl rfl w.heap.size #[.int .i64 0, .int .u64 0, .int .i64 0, .int .i64 0, .int .i64 0, .int .i64 0, .int .i64 0, .int .u32 0, .int .u32 0, .int .u64 0, .slice none 0 0, .string ⟨#[]⟩, .bool false, .int .i64 0, .int .i64 0, .int .u32 0] rfl rfl 39 #[.int .i64 0, .int .u64 0, .int .i64 0, .int .i64 0, .int .i64 0, .int .i64 0, .int .i64 0, .int .u32 0, .int .u32 0, .int .u64 0, .slice none 0 0, .string ⟨#[]⟩, .bool false, .int .i64 0, .int .i64 0, .int .u32 0] HNB.out HSZ.out rfl HONE.out ?_)
    refine bodyPost_ret (results_row_tmp rfl _ _ w.heap.size 39 #[.int .i64 0, .int .u64 0, .int .i64 0, .int .i64 0, .int .i64 0, .int .i64 0, .int .i64 0, .int .u32 0, .int .u32 0, .int .u64 0, .slice none 0 0, .string ⟨#[]⟩, .bool false, .int .i64 0, .int .i64 0, .int .u32 0] (0, 0) _ rfl (setRow_heap _ _ _ _ _ _ HNB.out) Try.underlying39 rfl HSZ.out) rfl ?_
    exact ⟨(HLAST.out.2).below (Nat.le_refl _) (fun k hk => by rcases hk with e | e <;> omega), .inr ⟨by rw [HG.out, HBAD.out, HD0.out, ← HSH.out]; simp, rfl⟩⟩
  go_wp2_with fail
  refine HKL.out.mono ?_
  rintro e wL ⟨rfl, nL, rfl⟩
  have hsL := hsR.new (But.drewN (But.refl (fun _ => False) _) nL)
  clear hsR HKL q0 q1 q2
  by_cases hz : p4.zs.length = 0
  rotate_left
  · have hz1 : decide ((0 : Int) < (p4.zs.length : Int)) = true := decide_eq_true (by omega)
    have hpos : 0 < p4.zs.length := by omega
    have hposI : (0 : Int) < (p4.zs.length : Int) := by omega
    have HZN := Lib.hid (show decide (p4.zs = []) = false from decide_eq_false (fun e => hz (by rw [e]; rfl)))
    clear hz
    have HNB := Lib.hid (hsL.res)
    have hone : (rzero : Array Value).all (fun x => x.oneCell') = true := by simp [rzero, Value.oneCell']
    have HONE := Lib.hid hone
    have HSZ := Lib.hid (ref_size.trans (show some 16 = some rzero.size from rfl))
    have HLAST := Lib.hid (hsL.last rzero)
    clear hone hsL
    unfold rzero at HNB HONE HSZ HLAST
    go_wp2_with (refine wpList_store_rowTo rfl 39 _ _ rfl rfl w.heap.size #[.int .i64 0, .int .u64 0, .int .i64 0, .int .i64 0, .int .i64 0, .int .i64 0, .int .i64 0, .int .u32 0, .int .u32 0, .int .u64 0, .slice none 0 0, .string ⟨#[]⟩, .bool false, .int .i64 0, .int .i64 0, .int .u32 0] rfl rfl 39 #[.int .i64 0, .int .u64 0, .int .i64 0, .int .i64 0, .int .i64 0, .int .i64 0, .int .i64 0, .int .u32 0, .int .u32 0, .int .u64 0, .slice none 0 0, .string ⟨#[]⟩, .bool false, .int .i64 0, .int .i64 0, .int .u32 0] HNB.out HSZ.out rfl HONE.out ?_)
    refine bodyPost_ret (results_row_tmp rfl _ _ w.heap.size 39 #[.int .i64 0, .int .u64 0, .int .i64 0, .int .i64 0, .int .i64 0, .int .i64 0, .int .i64 0, .int .u32 0, .int .u32 0, .int .u64 0, .slice none 0 0, .string ⟨#[]⟩, .bool false, .int .i64 0, .int .i64 0, .int .u32 0] (0, 0) _ rfl (setRow_heap _ _ _ _ _ _ HNB.out) Try.underlying39 rfl HSZ.out) rfl ?_
    exact ⟨(HLAST.out.2).below (Nat.le_refl _) (fun k hk => by rcases hk with e | e <;> omega), .inr ⟨by rw [HG.out, HBAD.out, HD0.out, HZN.out]; simp, rfl⟩⟩
  have hz1 : decide ((0 : Int) < (p4.zs.length : Int)) = false := decide_eq_false (by omega)
  have HZN := Lib.hid (show decide (p4.zs = []) = true from decide_eq_true (List.eq_nil_of_length_eq_zero hz))
  rw [hz]
  clear hz hz1
  have HBX := Lib.hid (show _ = _ from hsL.box)
  have HRX := Lib.hid (show _ = _ from hsL.res)
  have HLAST := Lib.hid (hsL.last #[.int .i64 3, .int .u64 (n2 : Int), .int .i64 (n3 : Int), .int .i64 (wrap64 (na : Int)), .int .i64 (wrap64 (nb : Int)), .int .i64 (wrap64 (nc : Int)), .int .i64 0, .int .u32 0, .int .u32 0, .int .u64 0, .slice none 0 0, .string ⟨#[]⟩, .bool false, .int .i64 0, .int .i64 0, .int .u32 0])

  clear hsL
  have hone : (#[.int .i64 3, .int .u64 (n2 : Int), .int .i64 (n3 : Int), .int .i64 (wrap64 (na : Int)), .int .i64 (wrap64 (nb : Int)), .int .i64 (wrap64 (nc : Int)), .int .i64 0, .int .u32 0, .int .u32 0, .int .u64 0, .slice none 0 0, .string ⟨#[]⟩, .bool false, .int .i64 0, .int .i64 0, .int .u32 0] : Array Value).all (fun x => x.oneCell') = true := by simp [Value.oneCell']
  have HONE := Lib.hid hone
  clear hone
  have HOLD := Lib.hid (show (rzero : Array Value).size = (#[.int .i64 3, .int .u64 (n2 : Int), .int .i64 (n3 : Int), .int .i64 (wrap64 (na : Int)), .int .i64 (wrap64 (nb : Int)), .int .i64 (wrap64 (nc : Int)), .int .i64 0, .int .u32 0, .int .u32 0, .int .u64 0, .slice none 0 0, .string ⟨#[]⟩, .bool false, .int .i64 0, .int .i64 0, .int .u32 0] : Array Value).size by simp [rzero])
  have HSZ := Lib.hid (ref_size.trans (show some 16 = some (#[.int .i64 3, .int .u64 (n2 : Int), .int .i64 (n3 : Int), .int .i64 (wrap64 (na : Int)), .int .i64 (wrap64 (nb : Int)), .int .i64 (wrap64 (nc : Int)), .int .i64 0, .int .u32 0, .int .u32 0, .int .u64 0, .slice none 0 0, .string ⟨#[]⟩, .bool false, .int .i64 0, .int .i64 0, .int .u32 0] : Array Value).size by simp))
  go_wp2_with (first
    | (refine wpList_load_row rfl 39 _ rfl (w.heap.size + 3) rfl 39 _ (0, 0) _ HBX.out Try.underlying39 rfl HSZ.out ?_)
    | (refine wpList_store_rowTo rfl 39 _ _ rfl rfl w.heap.size #[.int .i64 3, .int .u64 (n2 : Int), .int .i64 (n3 : Int), .int .i64 (wrap64 (na : Int)), .int .i64 (wrap64 (nb : Int)), .int .i64 (wrap64 (nc : Int)), .int .i64 0, .int .u32 0, .int .u32 0, .int .u64 0, .slice none 0 0, .string ⟨#[]⟩, .bool false, .int .i64 0, .int .i64 0, .int .u32 0] rfl rfl 39 rzero HRX.out HSZ.out HOLD.out HONE.out ?_))
  refine bodyPost_ret (results_row_tmp rfl _ _ w.heap.size 39 #[.int .i64 3, .int .u64 (n2 : Int), .int .i64 (n3 : Int), .int .i64 (wrap64 (na : Int)), .int .i64 (wrap64 (nb : Int)), .int .i64 (wrap64 (nc : Int)), .int .i64 0, .int .u32 0, .int .u32 0, .int .u64 0, .slice none 0 0, .string ⟨#[]⟩, .bool false, .int .i64 0, .int .i64 0, .int .u32 0] (0, 0) _ rfl (setRow_heap _ _ _ _ _ _ HRX.out) Try.underlying39 rfl HSZ.out) rfl ?_
  have hwb : Below w.heap.size w _ := (HLAST.out.2).below (Nat.le_refl _) (fun k hk => by rcases hk with e | e <;> omega)
  exact ⟨hwb, .inl ⟨by rw [HG.out, HBAD.out, HD0.out, ← HSH.out, HZN.out]; rfl, _, rfl, OpsAt.nil _⟩⟩
end Go.Proofs.Ytbdbbnpkekcefaa.Cmd

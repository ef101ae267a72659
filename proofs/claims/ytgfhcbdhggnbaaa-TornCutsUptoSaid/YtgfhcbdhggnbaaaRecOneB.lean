/- What is read next as the document's: the walks of the reference's one. -/
import Derived.Test.YtgfhcbdhggnbaaaRecWalk
import Derived.Test.YtgfhcbdhggnbaaaRecRefMay
import Derived.Test.YtgfhcbdhggnbaaaLate
import Derived.Test.YtgfhcbdhggnbaaaRecOneKit
namespace Go.Proofs.Ytgfhcbdhggnbaaa.Rec
open Go.Proofs.Ytgfhcbdhggnbaaa.Mem Go.Proofs.Ytgfhcbdhggnbaaa.Pack
open Go.ChangeShapes Go.WideShapes Go.ChangeAt Go.RowKit
set_option linter.unusedVariables false
set_option linter.unusedSimpArgs false

set_option maxRecDepth 100000 in
set_option maxHeartbeats 2000000 in
theorem one_3 (q bd : Nat) (P : Pos) (hB0 : Bytes P.zs) (hk : P.num 1 = 3) (w : World) (h : RfP q bd w P) (hp : q < w.heap.size) (hD : bd ≤ w.heap.size) : Calls Try.prog 25 #[.pointer (some ⟨q, 0, none⟩)] w fun e w' =>
    e = .returned (.tuple #[rv (first P), .bool (good P)]) ∧ RfP q bd w' (behind P) ∧ But (fun b => b = q) w w' := by
  have hS : ∀ k, k = q → k < w.heap.size := fun k e => e ▸ hp
  have fr := rfP_keeps hp hD
  have hs0 := Rdg.start (S := fun b => b = q) (t := 56) fr h #[.int .i64 0, .int .i64 0, .int .u32 0, .int .i64 0, .int .i64 0, .int .i64 0, .int .u64 0, .int .u32 0, .int .i64 0, .int .u64 0, .string ⟨#[]⟩, .string ⟨#[]⟩, .int .u64 0, .int .u64 0]
  obtain ⟨n1, hn1⟩ : ∃ n, n = P.num 1 := ⟨_, rfl⟩
  have hl1 : n1 < 256 := by rw [hn1]; exact num1_lt hB0
  obtain ⟨p1, hp1⟩ : ∃ x, x = P.skip 1 := ⟨_, rfl⟩
  have hB1 : Bytes p1.zs := by rw [hp1]; exact skip_bytes hB0 1
  have k1 := fun w => rfP_number q bd P 1 (by omega) (by omega) w
  rw [← hn1, ← hp1] at k1
  obtain ⟨n2, hn2⟩ : ∃ n, n = p1.num 1 := ⟨_, rfl⟩
  have hl2 : n2 < 256 := by rw [hn2]; exact num1_lt hB1
  obtain ⟨p2, hp2⟩ : ∃ x, x = p1.skip 1 := ⟨_, rfl⟩
  have hB2 : Bytes p2.zs := by rw [hp2]; exact skip_bytes hB1 1
  have k2 := fun w => rfP_number q bd p1 1 (by omega) (by omega) w
  rw [← hn2, ← hp2] at k2
  obtain ⟨n3, hn3⟩ : ∃ n, n = p2.num 4 := ⟨_, rfl⟩
  have hl3 : n3 < 4294967296 := by rw [hn3]; exact num4_lt hB2
  obtain ⟨p3, hp3⟩ : ∃ x, x = p2.skip 4 := ⟨_, rfl⟩
  have hB3 : Bytes p3.zs := by rw [hp3]; exact skip_bytes hB2 4
  have k3 := fun w => rfP_number q bd p2 4 (by omega) (by omega) w
  rw [← hn3, ← hp3] at k3
  obtain ⟨n4, hn4⟩ : ∃ n, n = p3.num 8 := ⟨_, rfl⟩
  have hl4 : n4 < 18446744073709551616 := by rw [hn4]; exact num8_lt hB3
  obtain ⟨p4, hp4⟩ : ∃ x, x = p3.skip 8 := ⟨_, rfl⟩
  have hB4 : Bytes p4.zs := by rw [hp4]; exact skip_bytes hB3 8
  have k4 := fun w => rfP_number q bd p3 8 (by omega) (by omega) w
  rw [← hn4, ← hp4] at k4
  obtain ⟨n5, hn5⟩ : ∃ n, n = p4.num 8 := ⟨_, rfl⟩
  have hl5 : n5 < 18446744073709551616 := by rw [hn5]; exact num8_lt hB4
  obtain ⟨p5, hp5⟩ : ∃ x, x = p4.skip 8 := ⟨_, rfl⟩
  have hB5 : Bytes p5.zs := by rw [hp5]; exact skip_bytes hB4 8
  have k5 := fun w => rfP_number q bd p4 8 (by omega) (by omega) w
  rw [← hn5, ← hp5] at k5
  obtain ⟨n6, hn6⟩ : ∃ n, n = p5.txt := ⟨_, rfl⟩
  obtain ⟨p6, hp6⟩ : ∃ x, x = p5.past := ⟨_, rfl⟩
  have hB6 : Bytes p6.zs := by rw [hp6]; exact past_bytes hB5
  have k6 := fun w => rfP_text q bd p5 hB5 w
  rw [← hn6, ← hp6] at k6
  obtain ⟨n7, hn7⟩ : ∃ n, n = p6.txt := ⟨_, rfl⟩
  obtain ⟨p7, hp7⟩ : ∃ x, x = p6.past := ⟨_, rfl⟩
  have hB7 : Bytes p7.zs := by rw [hp7]; exact past_bytes hB6
  have k7 := fun w => rfP_text q bd p6 hB6 w
  rw [← hn7, ← hp7] at k7
  have e1 : first P = ⟨3, n2, n3, 0, 0, 0, 0, 0, 0, 0, n6, n7, n4, n5⟩ := by
    subst hp1 hp2 hp3 hp4 hp5 hp6 hp7
    unfold first
    simp only
    rw [if_neg (by omega), if_pos hk]
    rw [hn2, hn3, hn4, hn5, hn6, hn7]
    rw [hk]; rfl
  have e2 : behind P = p7 := by
    subst hp1 hp2 hp3 hp4 hp5 hp6 hp7
    unfold behind
    simp only
    rw [if_neg (by omega), if_pos hk]
  rw [← hn1] at hk
  rw [hk, show ((3 : Nat) : Int) = 3 from rfl] at k1
  clear hk
  have hm := fun w => refMay_any (first P) w
  have hgd : good P = (decide (May (first P)) && !(behind P).short) := rfl
  rw [hgd]
  clear hgd
  rw [e1] at hm
  rw [e1, e2]
  obtain ⟨y, hy⟩ : ∃ y, y = decide (May (⟨3, n2, n3, 0, 0, 0, 0, 0, 0, 0, n6, n7, n4, n5⟩)) := ⟨_, rfl⟩
  rw [← hy] at hm ⊢
  clear hy
  obtain ⟨z, hz⟩ : ∃ z, z = (y && !p7.short) := ⟨_, rfl⟩
  rw [← hz]
  have HZ := Lib.hid hz
  clear hz
  clear e1 e2 hn1 hn2 hn3 hn4 hn5 hn6 hn7 hB0 hB1 hB2 hB3 hB4 hB5 hB6 hB7 hp1 hp2 hp3 hp4 hp5 hp6 hp7
  clear h
  simp only [rv, cells, nothing] at hm ⊢
  have HM := Lib.hid hm
  clear hm
  go_enter Try.func25, Try.ntmps25
  go_wp2_with fail
  refine (k1 _ hs0.rd).mono ?_
  rintro e w1 ⟨rfl, hr, hb⟩
  have hr1 := hs0.read hS hr hb
  clear hr hb hs0 k1
  have c0 : w1.cell? ⟨w.heap.size + 1, 0, none⟩ = some (.int .i64 0) := hr1.cell 0 rfl
  have f0 : w1.frozen? ⟨w.heap.size + 1, 0, none⟩ = false := hr1.frozen 0
  have hs1 := hr1.set fr 0 (.int .i64 3) (cs' := #[.int .i64 3, .int .i64 0, .int .u32 0, .int .i64 0, .int .i64 0, .int .i64 0, .int .u64 0, .int .u32 0, .int .i64 0, .int .u64 0, .string ⟨#[]⟩, .string ⟨#[]⟩, .int .u64 0, .int .u64 0]) rfl
  clear hr1
  go_wp2_with fail
  refine (k2 _ hs1.rd).mono ?_
  rintro e w2 ⟨rfl, hr, hb⟩
  have hr2 := hs1.read hS hr hb
  clear hr hb hs1 k2
  have c1 : w2.cell? ⟨w.heap.size + 1, 1, none⟩ = some (.int .i64 0) := hr2.cell 1 rfl
  have f1 : w2.frozen? ⟨w.heap.size + 1, 1, none⟩ = false := hr2.frozen 1
  have hs2 := hr2.set fr 1 (.int .i64 (n2 : Int)) (cs' := #[.int .i64 3, .int .i64 (n2 : Int), .int .u32 0, .int .i64 0, .int .i64 0, .int .i64 0, .int .u64 0, .int .u32 0, .int .i64 0, .int .u64 0, .string ⟨#[]⟩, .string ⟨#[]⟩, .int .u64 0, .int .u64 0]) rfl
  clear hr2
  go_wp2_with fail
  refine (k3 _ hs2.rd).mono ?_
  rintro e w3 ⟨rfl, hr, hb⟩
  have hr3 := hs2.read hS hr hb
  clear hr hb hs2 k3
  have c2 : w3.cell? ⟨w.heap.size + 1, 2, none⟩ = some (.int .u32 0) := hr3.cell 2 rfl
  have f2 : w3.frozen? ⟨w.heap.size + 1, 2, none⟩ = false := hr3.frozen 2
  have c0 : w3.cell? ⟨w.heap.size + 1, 0, none⟩ = some (.int .i64 3) := hr3.cell 0 rfl
  have hs3 := hr3.set fr 2 (.int .u32 (n3 : Int)) (cs' := #[.int .i64 3, .int .i64 (n2 : Int), .int .u32 (n3 : Int), .int .i64 0, .int .i64 0, .int .i64 0, .int .u64 0, .int .u32 0, .int .i64 0, .int .u64 0, .string ⟨#[]⟩, .string ⟨#[]⟩, .int .u64 0, .int .u64 0]) rfl
  clear hr3
  go_wp2_with fail
  refine (k4 _ hs3.rd).mono ?_
  rintro e w4 ⟨rfl, hr, hb⟩
  have hr4 := hs3.read hS hr hb
  clear hr hb hs3 k4
  have c12 : w4.cell? ⟨w.heap.size + 1, 12, none⟩ = some (.int .u64 0) := hr4.cell 12 rfl
  have f12 : w4.frozen? ⟨w.heap.size + 1, 12, none⟩ = false := hr4.frozen 12
  have hs4 := hr4.set fr 12 (.int .u64 (n4 : Int)) (cs' := #[.int .i64 3, .int .i64 (n2 : Int), .int .u32 (n3 : Int), .int .i64 0, .int .i64 0, .int .i64 0, .int .u64 0, .int .u32 0, .int .i64 0, .int .u64 0, .string ⟨#[]⟩, .string ⟨#[]⟩, .int .u64 (n4 : Int), .int .u64 0]) rfl
  clear hr4
  go_wp2_with fail
  refine (k5 _ hs4.rd).mono ?_
  rintro e w5 ⟨rfl, hr, hb⟩
  have hr5 := hs4.read hS hr hb
  clear hr hb hs4 k5
  have c13 : w5.cell? ⟨w.heap.size + 1, 13, none⟩ = some (.int .u64 0) := hr5.cell 13 rfl
  have f13 : w5.frozen? ⟨w.heap.size + 1, 13, none⟩ = false := hr5.frozen 13
  have hs5 := hr5.set fr 13 (.int .u64 (n5 : Int)) (cs' := #[.int .i64 3, .int .i64 (n2 : Int), .int .u32 (n3 : Int), .int .i64 0, .int .i64 0, .int .i64 0, .int .u64 0, .int .u32 0, .int .i64 0, .int .u64 0, .string ⟨#[]⟩, .string ⟨#[]⟩, .int .u64 (n4 : Int), .int .u64 (n5 : Int)]) rfl
  clear hr5
  go_wp2_with fail
  refine (k6 _ hs5.rd).mono ?_
  rintro e w6 ⟨rfl, hr, hb⟩
  have hr6 := hs5.read hS hr hb
  clear hr hb hs5 k6
  have c10 : w6.cell? ⟨w.heap.size + 1, 10, none⟩ = some (.string ⟨#[]⟩) := hr6.cell 10 rfl
  have f10 : w6.frozen? ⟨w.heap.size + 1, 10, none⟩ = false := hr6.frozen 10
  have hs6 := hr6.set fr 10 (.string n6) (cs' := #[.int .i64 3, .int .i64 (n2 : Int), .int .u32 (n3 : Int), .int .i64 0, .int .i64 0, .int .i64 0, .int .u64 0, .int .u32 0, .int .i64 0, .int .u64 0, .string n6, .string ⟨#[]⟩, .int .u64 (n4 : Int), .int .u64 (n5 : Int)]) rfl
  clear hr6
  go_wp2_with fail
  refine (k7 _ hs6.rd).mono ?_
  rintro e w7 ⟨rfl, hr, hb⟩
  have hr7 := hs6.read hS hr hb
  clear hr hb hs6 k7
  have c11 : w7.cell? ⟨w.heap.size + 1, 11, none⟩ = some (.string ⟨#[]⟩) := hr7.cell 11 rfl
  have f11 : w7.frozen? ⟨w.heap.size + 1, 11, none⟩ = false := hr7.frozen 11
  have hs7 := hr7.set fr 11 (.string n7) (cs' := #[.int .i64 3, .int .i64 (n2 : Int), .int .u32 (n3 : Int), .int .i64 0, .int .i64 0, .int .i64 0, .int .u64 0, .int .u32 0, .int .i64 0, .int .u64 0, .string n6, .string n7, .int .u64 (n4 : Int), .int .u64 (n5 : Int)]) rfl
  clear hr7
  have hbox := hs7.box
  have hres := hs7.res
  have hrd := hs7.rd
  have hbut := hs7.but
  have HBX := Lib.hid (show _ = _ from hbox)
  have hlt1 := hbox.lt
  have hlt2 := hres.lt
  clear hs7
  have hone : (#[.int .i64 3, .int .i64 (n2 : Int), .int .u32 (n3 : Int), .int .i64 0, .int .i64 0, .int .i64 0, .int .u64 0, .int .u32 0, .int .i64 0, .int .u64 0, .string n6, .string n7, .int .u64 (n4 : Int), .int .u64 (n5 : Int)] : Array Value).all (fun x => x.oneCell') = true := by simp [Value.oneCell']
  have HONE := Lib.hid hone
  clear hone
  have HOLD := Lib.hid (show (#[.int .i64 0, .int .i64 0, .int .u32 0, .int .i64 0, .int .i64 0, .int .i64 0, .int .u64 0, .int .u32 0, .int .i64 0, .int .u64 0, .string ⟨#[]⟩, .string ⟨#[]⟩, .int .u64 0, .int .u64 0] : Array Value).size = (#[.int .i64 3, .int .i64 (n2 : Int), .int .u32 (n3 : Int), .int .i64 0, .int .i64 0, .int .i64 0, .int .u64 0, .int .u32 0, .int .i64 0, .int .u64 0, .string n6, .string n7, .int .u64 (n4 : Int), .int .u64 (n5 : Int)] : Array Value).size by simp)
  have HSZ := Lib.hid (rec_size.trans (show some 14 = some (#[.int .i64 3, .int .i64 (n2 : Int), .int .u32 (n3 : Int), .int .i64 0, .int .i64 0, .int .i64 0, .int .u64 0, .int .u32 0, .int .i64 0, .int .u64 0, .string n6, .string n7, .int .u64 (n4 : Int), .int .u64 (n5 : Int)] : Array Value).size by simp))
  have H0 := Lib.hid (And.intro hbox (And.intro hres (And.intro hrd (And.intro hbut (And.intro hlt1 hlt2)))))
  clear hbox hres hrd hbut hlt1 hlt2
  go_wp2_with (refine wpList_load_row rfl 56 _ rfl (w.heap.size + 1) rfl 56 _ (0, 0) _ HBX.out Try.underlying56 rfl HSZ.out ?_)
  refine (HM.out _).mono ?_
  rintro e wM ⟨rfl, hbM⟩
  obtain ⟨hbox, hres, hrd, hbut, hlt1, hlt2⟩ := H0.out
  have hM : But (fun _ => False) _ wM := But.of_new hbM
  have hbox2 := hbox.but hM (fun e => e)
  have hres2 := hres.but hM (fun e => e)
  have hbut2 := hbut.trans hM (fun _ _ e => e.elim)
  have hrd2 := fr _ _ _ hrd (hM.mono (fun _ _ e => e.elim))
  have hsh := Rf.short hrd2
  obtain ⟨sh, hshe⟩ : ∃ s, s = p7.short := ⟨_, rfl⟩
  rw [← hshe] at hsh
  have HSE := Lib.hid hshe
  have HX := Lib.hid (And.intro hbut2 hrd2)
  have HBX2 := Lib.hid hbox2
  have HRX2 := Lib.hid hres2
  have HSH := Lib.hid hsh
  have hne : w.heap.size + 1 ≠ w.heap.size := by omega
  have hqne : q ≠ w.heap.size := by omega
  have HROWB := Lib.hid (fun cs' => but_setRow (fun k => k = w.heap.size) ((But.refl (fun k => k = w.heap.size) wM).drew) (.inl rfl) cs')
  clear hbM hbox hres hrd hbut hlt1 hlt2 hM hbox2 hres2 hbut2 hrd2 hsh hshe H0 HBX
  cases y
  · have hzz : z = false := by rw [HZ.out]; rfl
    have HZZ := Lib.hid hzz
    clear hzz HZ
    go_wp2_with fail
    refine Late.region_goes (fun u => Blk u (w.heap.size + 1) 56 #[.int .i64 3, .int .i64 (n2 : Int), .int .u32 (n3 : Int), .int .i64 0, .int .i64 0, .int .i64 0, .int .u64 0, .int .u32 0, .int .i64 0, .int .u64 0, .string n6, .string n7, .int .u64 (n4 : Int), .int .u64 (n5 : Int)] ∧ u.cell? ⟨q, 2, none⟩ = some (.bool sh)) (fun _ => false) (by kernel_rfl) ?_ (fun hH => ?_)
    · exact ⟨HBX2.out, HSH.out⟩
    refine Late.Goes.take (i := 0) (v := ?_) (by simp only [List.getElem?_toArray, List.getElem?_cons_succ, List.getElem?_cons_zero]; rfl) (by kernel_rfl) (by kernel_rfl) (by kernel_rfl) (by kernel_rfl) (by exact fun _ _ _ h => h) (Or.inl ⟨by rfl, ?_⟩) hH ?_
    rotate_left
    · (intro wy hSw; (try dsimp only at hSw); have c0 : wy.cell? ⟨w.heap.size + 1, 0, none⟩ = some (.int .i64 3) := (Blk.cell hSw.1 0).trans rfl; have c1 : wy.cell? ⟨w.heap.size + 1, 1, none⟩ = some (.int .i64 (n2 : Int)) := (Blk.cell hSw.1 1).trans rfl; have c2 : wy.cell? ⟨w.heap.size + 1, 2, none⟩ = some (.int .u32 (n3 : Int)) := (Blk.cell hSw.1 2).trans rfl; have c3 : wy.cell? ⟨w.heap.size + 1, 3, none⟩ = some (.int .i64 0) := (Blk.cell hSw.1 3).trans rfl; have c4 : wy.cell? ⟨w.heap.size + 1, 4, none⟩ = some (.int .i64 0) := (Blk.cell hSw.1 4).trans rfl; have c5 : wy.cell? ⟨w.heap.size + 1, 5, none⟩ = some (.int .i64 0) := (Blk.cell hSw.1 5).trans rfl; have c6 : wy.cell? ⟨w.heap.size + 1, 6, none⟩ = some (.int .u64 0) := (Blk.cell hSw.1 6).trans rfl; have c7 : wy.cell? ⟨w.heap.size + 1, 7, none⟩ = some (.int .u32 0) := (Blk.cell hSw.1 7).trans rfl; have c8 : wy.cell? ⟨w.heap.size + 1, 8, none⟩ = some (.int .i64 0) := (Blk.cell hSw.1 8).trans rfl; have c9 : wy.cell? ⟨w.heap.size + 1, 9, none⟩ = some (.int .u64 0) := (Blk.cell hSw.1 9).trans rfl; have c10 : wy.cell? ⟨w.heap.size + 1, 10, none⟩ = some (.string n6) := (Blk.cell hSw.1 10).trans rfl; have c11 : wy.cell? ⟨w.heap.size + 1, 11, none⟩ = some (.string n7) := (Blk.cell hSw.1 11).trans rfl; have c12 : wy.cell? ⟨w.heap.size + 1, 12, none⟩ = some (.int .u64 (n4 : Int)) := (Blk.cell hSw.1 12).trans rfl; have c13 : wy.cell? ⟨w.heap.size + 1, 13, none⟩ = some (.int .u64 (n5 : Int)) := (Blk.cell hSw.1 13).trans rfl; go_simp; try (with_reducible rfl))
    try simp only [Act.put, List.setIfInBounds_toArray, List.set_cons_zero, List.set_cons_succ]
    refine Late.Goes.take (i := 1) (v := ?_) (by simp only [List.getElem?_toArray, List.getElem?_cons_succ, List.getElem?_cons_zero]; rfl) (by kernel_rfl) (by kernel_rfl) (by kernel_rfl) (by kernel_rfl) (by exact fun _ _ _ h => h) (Or.inl ⟨by rfl, ?_⟩) hH ?_
    rotate_left
    · (intro wy hSw; (try dsimp only at hSw); go_simp; try (with_reducible rfl))
    try simp only [Act.put, List.setIfInBounds_toArray, List.set_cons_zero, List.set_cons_succ]
    refine Late.Goes.take (i := 2) (v := ?_) (by simp only [List.getElem?_toArray, List.getElem?_cons_succ, List.getElem?_cons_zero]; rfl) (by kernel_rfl) (by kernel_rfl) (by kernel_rfl) (by kernel_rfl) (by exact fun _ _ _ h => h) (Or.inl ⟨by rfl, ?_⟩) hH ?_
    rotate_left
    · (intro wy hSw; (try dsimp only at hSw); go_simp; try (with_reducible rfl))
    try simp only [Act.put, List.setIfInBounds_toArray, List.set_cons_zero, List.set_cons_succ]
    refine Late.Goes.take (i := 3) (v := undef) (by simp only [List.getElem?_toArray, List.getElem?_cons_succ, List.getElem?_cons_zero]; rfl) (by kernel_rfl) (by kernel_rfl) (by kernel_rfl) (by kernel_rfl) (by exact fun _ _ _ h => h) (Or.inr ⟨by rfl, rfl⟩) hH ?_
    try simp only [Act.put, List.setIfInBounds_toArray, List.set_cons_zero, List.set_cons_succ]
    refine Late.Goes.take (i := 4) (v := undef) (by simp only [List.getElem?_toArray, List.getElem?_cons_succ, List.getElem?_cons_zero]; rfl) (by kernel_rfl) (by kernel_rfl) (by kernel_rfl) (by kernel_rfl) (by exact fun _ _ _ h => h) (Or.inr ⟨by rfl, rfl⟩) hH ?_
    try simp only [Act.put, List.setIfInBounds_toArray, List.set_cons_zero, List.set_cons_succ]
    refine Late.Goes.take (i := 5) (v := undef) (by simp only [List.getElem?_toArray, List.getElem?_cons_succ, List.getElem?_cons_zero]; rfl) (by kernel_rfl) (by kernel_rfl) (by kernel_rfl) (by kernel_rfl) (by exact fun _ _ _ h => h) (Or.inr ⟨by rfl, rfl⟩) hH ?_
    try simp only [Act.put, List.setIfInBounds_toArray, List.set_cons_zero, List.set_cons_succ]
    refine Late.Goes.take (i := 6) (v := undef) (by simp only [List.getElem?_toArray, List.getElem?_cons_succ, List.getElem?_cons_zero]; rfl) (by kernel_rfl) (by kernel_rfl) (by kernel_rfl) (by kernel_rfl) (by exact fun _ _ _ h => h) (Or.inr ⟨by rfl, rfl⟩) hH ?_
    try simp only [Act.put, List.setIfInBounds_toArray, List.set_cons_zero, List.set_cons_succ]
    refine Late.Goes.take (i := 7) (v := undef) (by simp only [List.getElem?_toArray, List.getElem?_cons_succ, List.getElem?_cons_zero]; rfl) (by kernel_rfl) (by kernel_rfl) (by kernel_rfl) (by kernel_rfl) (by exact fun _ _ _ h => h) (Or.inr ⟨by rfl, rfl⟩) hH ?_
    try simp only [Act.put, List.setIfInBounds_toArray, List.set_cons_zero, List.set_cons_succ]
    refine Late.Goes.take (i := 8) (v := ?_) (by simp only [List.getElem?_toArray, List.getElem?_cons_succ, List.getElem?_cons_zero]; rfl) (by kernel_rfl) (by kernel_rfl) (by kernel_rfl) (by kernel_rfl) (by exact fun _ _ _ h => h) (Or.inl ⟨by rfl, ?_⟩) hH ?_
    rotate_left
    · (intro wy hSw; (try dsimp only at hSw); go_simp; try (with_reducible rfl))
    try simp only [Act.put, List.setIfInBounds_toArray, List.set_cons_zero, List.set_cons_succ]
    refine Late.Goes.one (i := 9) (by kernel_rfl) (by simp only [List.getElem?_toArray, List.getElem?_cons_succ, List.getElem?_cons_zero]; rfl) (fun K hK => ?_)
    clear hH
    rw [if_pos (by rfl)]
    refine wp_store_row 56 _ _ rfl w.heap.size #[.int .i64 3, .int .i64 (n2 : Int), .int .u32 (n3 : Int), .int .i64 0, .int .i64 0, .int .i64 0, .int .u64 0, .int .u32 0, .int .i64 0, .int .u64 0, .string n6, .string n7, .int .u64 (n4 : Int), .int .u64 (n5 : Int)] (by rfl) (by rfl) 56 #[.int .i64 0, .int .i64 0, .int .u32 0, .int .i64 0, .int .i64 0, .int .i64 0, .int .u64 0, .int .u32 0, .int .i64 0, .int .u64 0, .string ⟨#[]⟩, .string ⟨#[]⟩, .int .u64 0, .int .u64 0] HRX2.out HSZ.out HOLD.out HONE.out ?_
    refine hK.out _ _ ?_ (fun hH => ?_)
    · exact fun _ => ⟨HBX2.out.but (T := fun k => k = w.heap.size) (HROWB.out _) hne, (But.cell (HROWB.out _) (p := ⟨q, 2, none⟩) (World.block_lt_of_cell? wM ⟨q, 2, none⟩ HSH.out) hqne).trans HSH.out⟩
    clear hK K
    have hH := hH rfl
    try simp only [Act.put, List.setIfInBounds_toArray, List.set_cons_zero, List.set_cons_succ]
    refine Late.Goes.one (i := 10) (by kernel_rfl) (by simp only [List.getElem?_toArray, List.getElem?_cons_succ, List.getElem?_cons_zero]; rfl) (fun K hK => ?_)
    have hH0 := hH
    clear hH
    go_simp
    refine hK.out _ _ ?_ (fun hH => ?_)
    · exact fun _ => hH0
    clear hK K
    have hH := hH rfl
    try simp only [Act.put, List.setIfInBounds_toArray, List.set_cons_zero, List.set_cons_succ]
    refine Late.Goes.done (by kernel_rfl) ?_ _
    go_wp2_with fail
    refine bodyPost_ret (results_row_tmp rfl _ _ w.heap.size 56 #[.int .i64 3, .int .i64 (n2 : Int), .int .u32 (n3 : Int), .int .i64 0, .int .i64 0, .int .i64 0, .int .u64 0, .int .u32 0, .int .i64 0, .int .u64 0, .string n6, .string n7, .int .u64 (n4 : Int), .int .u64 (n5 : Int)] (0, 0) _ rfl (setRow_heap _ _ _ _ _ _ HRX2.out) Try.underlying56 rfl HSZ.out) rfl ?_
    refine ⟨by rw [HZZ.out]; rfl, fr _ _ _ HX.out.2 ((HROWB.out _).mono (fun j _ e => Nat.le_of_eq (show j = w.heap.size from e).symm)), HX.out.1.trans (HROWB.out _) (fun j hj e => absurd hj (by have : j = w.heap.size := e; omega))⟩
  · have hzz : z = !sh := by rw [HZ.out, HSE.out]; rfl
    have HZZ := Lib.hid hzz
    clear hzz HZ
    go_wp2_with fail
    refine Late.region_goes (fun u => Blk u (w.heap.size + 1) 56 #[.int .i64 3, .int .i64 (n2 : Int), .int .u32 (n3 : Int), .int .i64 0, .int .i64 0, .int .i64 0, .int .u64 0, .int .u32 0, .int .i64 0, .int .u64 0, .string n6, .string n7, .int .u64 (n4 : Int), .int .u64 (n5 : Int)] ∧ u.cell? ⟨q, 2, none⟩ = some (.bool sh)) (fun _ => false) (by kernel_rfl) ?_ (fun hH => ?_)
    · exact ⟨HBX2.out, HSH.out⟩
    refine Late.Goes.take (i := 0) (v := ?_) (by simp only [List.getElem?_toArray, List.getElem?_cons_succ, List.getElem?_cons_zero]; rfl) (by kernel_rfl) (by kernel_rfl) (by kernel_rfl) (by kernel_rfl) (by exact fun _ _ _ h => h) (Or.inl ⟨by rfl, ?_⟩) hH ?_
    rotate_left
    · (intro wy hSw; (try dsimp only at hSw); have c0 : wy.cell? ⟨w.heap.size + 1, 0, none⟩ = some (.int .i64 3) := (Blk.cell hSw.1 0).trans rfl; have c1 : wy.cell? ⟨w.heap.size + 1, 1, none⟩ = some (.int .i64 (n2 : Int)) := (Blk.cell hSw.1 1).trans rfl; have c2 : wy.cell? ⟨w.heap.size + 1, 2, none⟩ = some (.int .u32 (n3 : Int)) := (Blk.cell hSw.1 2).trans rfl; have c3 : wy.cell? ⟨w.heap.size + 1, 3, none⟩ = some (.int .i64 0) := (Blk.cell hSw.1 3).trans rfl; have c4 : wy.cell? ⟨w.heap.size + 1, 4, none⟩ = some (.int .i64 0) := (Blk.cell hSw.1 4).trans rfl; have c5 : wy.cell? ⟨w.heap.size + 1, 5, none⟩ = some (.int .i64 0) := (Blk.cell hSw.1 5).trans rfl; have c6 : wy.cell? ⟨w.heap.size + 1, 6, none⟩ = some (.int .u64 0) := (Blk.cell hSw.1 6).trans rfl; have c7 : wy.cell? ⟨w.heap.size + 1, 7, none⟩ = some (.int .u32 0) := (Blk.cell hSw.1 7).trans rfl; have c8 : wy.cell? ⟨w.heap.size + 1, 8, none⟩ = some (.int .i64 0) := (Blk.cell hSw.1 8).trans rfl; have c9 : wy.cell? ⟨w.heap.size + 1, 9, none⟩ = some (.int .u64 0) := (Blk.cell hSw.1 9).trans rfl; have c10 : wy.cell? ⟨w.heap.size + 1, 10, none⟩ = some (.string n6) := (Blk.cell hSw.1 10).trans rfl; have c11 : wy.cell? ⟨w.heap.size + 1, 11, none⟩ = some (.string n7) := (Blk.cell hSw.1 11).trans rfl; have c12 : wy.cell? ⟨w.heap.size + 1, 12, none⟩ = some (.int .u64 (n4 : Int)) := (Blk.cell hSw.1 12).trans rfl; have c13 : wy.cell? ⟨w.heap.size + 1, 13, none⟩ = some (.int .u64 (n5 : Int)) := (Blk.cell hSw.1 13).trans rfl; go_simp; try (with_reducible rfl))
    try simp only [Act.put, List.setIfInBounds_toArray, List.set_cons_zero, List.set_cons_succ]
    refine Late.Goes.take (i := 1) (v := ?_) (by simp only [List.getElem?_toArray, List.getElem?_cons_succ, List.getElem?_cons_zero]; rfl) (by kernel_rfl) (by kernel_rfl) (by kernel_rfl) (by kernel_rfl) (by exact fun _ _ _ h => h) (Or.inl ⟨by rfl, ?_⟩) hH ?_
    rotate_left
    · (intro wy hSw; (try dsimp only at hSw); go_simp; try (with_reducible rfl))
    try simp only [Act.put, List.setIfInBounds_toArray, List.set_cons_zero, List.set_cons_succ]
    refine Late.Goes.take (i := 2) (v := ?_) (by simp only [List.getElem?_toArray, List.getElem?_cons_succ, List.getElem?_cons_zero]; rfl) (by kernel_rfl) (by kernel_rfl) (by kernel_rfl) (by kernel_rfl) (by exact fun _ _ _ h => h) (Or.inl ⟨by rfl, ?_⟩) hH ?_
    rotate_left
    · (intro wy hSw; (try dsimp only at hSw); go_simp; try (with_reducible rfl))
    try simp only [Act.put, List.setIfInBounds_toArray, List.set_cons_zero, List.set_cons_succ]
    refine Late.Goes.take (i := 3) (v := ?_) (by simp only [List.getElem?_toArray, List.getElem?_cons_succ, List.getElem?_cons_zero]; rfl) (by kernel_rfl) (by kernel_rfl) (by kernel_rfl) (by kernel_rfl) (by exact fun _ _ _ h => h) (Or.inl ⟨by rfl, ?_⟩) hH ?_
    rotate_left
    · (intro wy hSw; (try dsimp only at hSw); have c2 := hSw.2; go_simp; try (with_reducible rfl))
    try simp only [Act.put, List.setIfInBounds_toArray, List.set_cons_zero, List.set_cons_succ]
    refine Late.Goes.take (i := 4) (v := ?_) (by simp only [List.getElem?_toArray, List.getElem?_cons_succ, List.getElem?_cons_zero]; rfl) (by kernel_rfl) (by kernel_rfl) (by kernel_rfl) (by kernel_rfl) (by exact fun _ _ _ h => h) (Or.inl ⟨by rfl, ?_⟩) hH ?_
    rotate_left
    · (intro wy hSw; (try dsimp only at hSw); have c2 := hSw.2; go_simp; try (with_reducible rfl))
    try simp only [Act.put, List.setIfInBounds_toArray, List.set_cons_zero, List.set_cons_succ]
    refine Late.Goes.take (i := 5) (v := ?_) (by simp only [List.getElem?_toArray, List.getElem?_cons_succ, List.getElem?_cons_zero]; rfl) (by kernel_rfl) (by kernel_rfl) (by kernel_rfl) (by kernel_rfl) (by exact fun _ _ _ h => h) (Or.inl ⟨by rfl, ?_⟩) hH ?_
    rotate_left
    · (intro wy hSw; (try dsimp only at hSw); have c2 := hSw.2; go_simp; try (with_reducible rfl))
    try simp only [Act.put, List.setIfInBounds_toArray, List.set_cons_zero, List.set_cons_succ]
    refine Late.Goes.take (i := 6) (v := ?_) (by simp only [List.getElem?_toArray, List.getElem?_cons_succ, List.getElem?_cons_zero]; rfl) (by kernel_rfl) (by kernel_rfl) (by kernel_rfl) (by kernel_rfl) (by exact fun _ _ _ h => h) (Or.inl ⟨by rfl, ?_⟩) hH ?_
    rotate_left
    · (intro wy hSw; (try dsimp only at hSw); have c2 := hSw.2; go_simp; try (with_reducible rfl))
    try simp only [Act.put, List.setIfInBounds_toArray, List.set_cons_zero, List.set_cons_succ]
    refine Late.Goes.take (i := 7) (v := ?_) (by simp only [List.getElem?_toArray, List.getElem?_cons_succ, List.getElem?_cons_zero]; rfl) (by kernel_rfl) (by kernel_rfl) (by kernel_rfl) (by kernel_rfl) (by exact fun _ _ _ h => h) (Or.inl ⟨by rfl, ?_⟩) hH ?_
    rotate_left
    · (intro wy hSw; (try dsimp only at hSw); have c2 := hSw.2; go_simp; try (with_reducible rfl))
    try simp only [Act.put, List.setIfInBounds_toArray, List.set_cons_zero, List.set_cons_succ]
    refine Late.Goes.take (i := 8) (v := ?_) (by simp only [List.getElem?_toArray, List.getElem?_cons_succ, List.getElem?_cons_zero]; rfl) (by kernel_rfl) (by kernel_rfl) (by kernel_rfl) (by kernel_rfl) (by exact fun _ _ _ h => h) (Or.inl ⟨by rfl, ?_⟩) hH ?_
    rotate_left
    · (intro wy hSw; (try dsimp only at hSw); go_simp; try (with_reducible rfl))
    try simp only [Act.put, List.setIfInBounds_toArray, List.set_cons_zero, List.set_cons_succ]
    refine Late.Goes.one (i := 9) (by kernel_rfl) (by simp only [List.getElem?_toArray, List.getElem?_cons_succ, List.getElem?_cons_zero]; rfl) (fun K hK => ?_)
    clear hH
    rw [if_pos (by rfl)]
    refine wp_store_row 56 _ _ rfl w.heap.size #[.int .i64 3, .int .i64 (n2 : Int), .int .u32 (n3 : Int), .int .i64 0, .int .i64 0, .int .i64 0, .int .u64 0, .int .u32 0, .int .i64 0, .int .u64 0, .string n6, .string n7, .int .u64 (n4 : Int), .int .u64 (n5 : Int)] (by rfl) (by rfl) 56 #[.int .i64 0, .int .i64 0, .int .u32 0, .int .i64 0, .int .i64 0, .int .i64 0, .int .u64 0, .int .u32 0, .int .i64 0, .int .u64 0, .string ⟨#[]⟩, .string ⟨#[]⟩, .int .u64 0, .int .u64 0] HRX2.out HSZ.out HOLD.out HONE.out ?_
    refine hK.out _ _ ?_ (fun hH => ?_)
    · exact fun _ => ⟨HBX2.out.but (T := fun k => k = w.heap.size) (HROWB.out _) hne, (But.cell (HROWB.out _) (p := ⟨q, 2, none⟩) (World.block_lt_of_cell? wM ⟨q, 2, none⟩ HSH.out) hqne).trans HSH.out⟩
    clear hK K
    have hH := hH rfl
    try simp only [Act.put, List.setIfInBounds_toArray, List.set_cons_zero, List.set_cons_succ]
    refine Late.Goes.one (i := 10) (by kernel_rfl) (by simp only [List.getElem?_toArray, List.getElem?_cons_succ, List.getElem?_cons_zero]; rfl) (fun K hK => ?_)
    have hH0 := hH
    clear hH
    go_simp
    refine hK.out _ _ ?_ (fun hH => ?_)
    · exact fun _ => hH0
    clear hK K
    have hH := hH rfl
    try simp only [Act.put, List.setIfInBounds_toArray, List.set_cons_zero, List.set_cons_succ]
    refine Late.Goes.done (by kernel_rfl) ?_ _
    go_wp2_with fail
    refine bodyPost_ret (results_row_tmp rfl _ _ w.heap.size 56 #[.int .i64 3, .int .i64 (n2 : Int), .int .u32 (n3 : Int), .int .i64 0, .int .i64 0, .int .i64 0, .int .u64 0, .int .u32 0, .int .i64 0, .int .u64 0, .string n6, .string n7, .int .u64 (n4 : Int), .int .u64 (n5 : Int)] (0, 0) _ rfl (setRow_heap _ _ _ _ _ _ HRX2.out) Try.underlying56 rfl HSZ.out) rfl ?_
    refine ⟨by rw [HZZ.out]; rfl, fr _ _ _ HX.out.2 ((HROWB.out _).mono (fun j _ e => Nat.le_of_eq (show j = w.heap.size from e).symm)), HX.out.1.trans (HROWB.out _) (fun j hj e => absurd hj (by have : j = w.heap.size := e; omega))⟩
set_option maxRecDepth 100000 in
set_option maxHeartbeats 2000000 in
theorem one_6 (q bd : Nat) (P : Pos) (hB0 : Bytes P.zs) (hk : P.num 1 = 6) (w : World) (h : RfP q bd w P) (hp : q < w.heap.size) (hD : bd ≤ w.heap.size) : Calls Try.prog 25 #[.pointer (some ⟨q, 0, none⟩)] w fun e w' =>
    e = .returned (.tuple #[rv (first P), .bool (good P)]) ∧ RfP q bd w' (behind P) ∧ But (fun b => b = q) w w' := by
  have hS : ∀ k, k = q → k < w.heap.size := fun k e => e ▸ hp
  have fr := rfP_keeps hp hD
  have hs0 := Rdg.start (S := fun b => b = q) (t := 56) fr h #[.int .i64 0, .int .i64 0, .int .u32 0, .int .i64 0, .int .i64 0, .int .i64 0, .int .u64 0, .int .u32 0, .int .i64 0, .int .u64 0, .string ⟨#[]⟩, .string ⟨#[]⟩, .int .u64 0, .int .u64 0]
  obtain ⟨n1, hn1⟩ : ∃ n, n = P.num 1 := ⟨_, rfl⟩
  have hl1 : n1 < 256 := by rw [hn1]; exact num1_lt hB0
  obtain ⟨p1, hp1⟩ : ∃ x, x = P.skip 1 := ⟨_, rfl⟩
  have hB1 : Bytes p1.zs := by rw [hp1]; exact skip_bytes hB0 1
  have k1 := fun w => rfP_number q bd P 1 (by omega) (by omega) w
  rw [← hn1, ← hp1] at k1
  obtain ⟨n2, hn2⟩ : ∃ n, n = p1.num 1 := ⟨_, rfl⟩
  have hl2 : n2 < 256 := by rw [hn2]; exact num1_lt hB1
  obtain ⟨p2, hp2⟩ : ∃ x, x = p1.skip 1 := ⟨_, rfl⟩
  have hB2 : Bytes p2.zs := by rw [hp2]; exact skip_bytes hB1 1
  have k2 := fun w => rfP_number q bd p1 1 (by omega) (by omega) w
  rw [← hn2, ← hp2] at k2
  obtain ⟨n3, hn3⟩ : ∃ n, n = p2.num 4 := ⟨_, rfl⟩
  have hl3 : n3 < 4294967296 := by rw [hn3]; exact num4_lt hB2
  obtain ⟨p3, hp3⟩ : ∃ x, x = p2.skip 4 := ⟨_, rfl⟩
  have hB3 : Bytes p3.zs := by rw [hp3]; exact skip_bytes hB2 4
  have k3 := fun w => rfP_number q bd p2 4 (by omega) (by omega) w
  rw [← hn3, ← hp3] at k3
  obtain ⟨n4, hn4⟩ : ∃ n, n = p3.num 4 := ⟨_, rfl⟩
  have hl4 : n4 < 4294967296 := by rw [hn4]; exact num4_lt hB3
  obtain ⟨p4, hp4⟩ : ∃ x, x = p3.skip 4 := ⟨_, rfl⟩
  have hB4 : Bytes p4.zs := by rw [hp4]; exact skip_bytes hB3 4
  have k4 := fun w => rfP_number q bd p3 4 (by omega) (by omega) w
  rw [← hn4, ← hp4] at k4
  have e1 : first P = ⟨6, n2, n3, 0, 0, 0, 0, n4, 0, 0, nothing, nothing, 0, 0⟩ := by
    subst hp1 hp2 hp3 hp4
    unfold first
    simp only
    rw [if_neg (by omega), if_neg (by omega), if_neg (by omega), if_neg (by omega), if_pos hk]
    rw [hn2, hn3, hn4]
    rw [hk]; rfl
  have e2 : behind P = p4 := by
    subst hp1 hp2 hp3 hp4
    unfold behind
    simp only
    rw [if_neg (by omega), if_neg (by omega), if_neg (by omega), if_neg (by omega), if_pos hk]
  rw [← hn1] at hk
  rw [hk, show ((6 : Nat) : Int) = 6 from rfl] at k1
  clear hk
  have hm := fun w => refMay_any (first P) w
  have hgd : good P = (decide (May (first P)) && !(behind P).short) := rfl
  rw [hgd]
  clear hgd
  rw [e1] at hm
  rw [e1, e2]
  obtain ⟨y, hy⟩ : ∃ y, y = decide (May (⟨6, n2, n3, 0, 0, 0, 0, n4, 0, 0, nothing, nothing, 0, 0⟩)) := ⟨_, rfl⟩
  rw [← hy] at hm ⊢
  clear hy
  obtain ⟨z, hz⟩ : ∃ z, z = (y && !p4.short) := ⟨_, rfl⟩
  rw [← hz]
  have HZ := Lib.hid hz
  clear hz
  clear e1 e2 hn1 hn2 hn3 hn4 hB0 hB1 hB2 hB3 hB4 hp1 hp2 hp3 hp4
  clear h
  simp only [rv, cells, nothing] at hm ⊢
  have HM := Lib.hid hm
  clear hm
  go_enter Try.func25, Try.ntmps25
  go_wp2_with fail
  refine (k1 _ hs0.rd).mono ?_
  rintro e w1 ⟨rfl, hr, hb⟩
  have hr1 := hs0.read hS hr hb
  clear hr hb hs0 k1
  have c0 : w1.cell? ⟨w.heap.size + 1, 0, none⟩ = some (.int .i64 0) := hr1.cell 0 rfl
  have f0 : w1.frozen? ⟨w.heap.size + 1, 0, none⟩ = false := hr1.frozen 0
  have hs1 := hr1.set fr 0 (.int .i64 6) (cs' := #[.int .i64 6, .int .i64 0, .int .u32 0, .int .i64 0, .int .i64 0, .int .i64 0, .int .u64 0, .int .u32 0, .int .i64 0, .int .u64 0, .string ⟨#[]⟩, .string ⟨#[]⟩, .int .u64 0, .int .u64 0]) rfl
  clear hr1
  go_wp2_with fail
  refine (k2 _ hs1.rd).mono ?_
  rintro e w2 ⟨rfl, hr, hb⟩
  have hr2 := hs1.read hS hr hb
  clear hr hb hs1 k2
  have c1 : w2.cell? ⟨w.heap.size + 1, 1, none⟩ = some (.int .i64 0) := hr2.cell 1 rfl
  have f1 : w2.frozen? ⟨w.heap.size + 1, 1, none⟩ = false := hr2.frozen 1
  have hs2 := hr2.set fr 1 (.int .i64 (n2 : Int)) (cs' := #[.int .i64 6, .int .i64 (n2 : Int), .int .u32 0, .int .i64 0, .int .i64 0, .int .i64 0, .int .u64 0, .int .u32 0, .int .i64 0, .int .u64 0, .string ⟨#[]⟩, .string ⟨#[]⟩, .int .u64 0, .int .u64 0]) rfl
  clear hr2
  go_wp2_with fail
  refine (k3 _ hs2.rd).mono ?_
  rintro e w3 ⟨rfl, hr, hb⟩
  have hr3 := hs2.read hS hr hb
  clear hr hb hs2 k3
  have c2 : w3.cell? ⟨w.heap.size + 1, 2, none⟩ = some (.int .u32 0) := hr3.cell 2 rfl
  have f2 : w3.frozen? ⟨w.heap.size + 1, 2, none⟩ = false := hr3.frozen 2
  have c0 : w3.cell? ⟨w.heap.size + 1, 0, none⟩ = some (.int .i64 6) := hr3.cell 0 rfl
  have hs3 := hr3.set fr 2 (.int .u32 (n3 : Int)) (cs' := #[.int .i64 6, .int .i64 (n2 : Int), .int .u32 (n3 : Int), .int .i64 0, .int .i64 0, .int .i64 0, .int .u64 0, .int .u32 0, .int .i64 0, .int .u64 0, .string ⟨#[]⟩, .string ⟨#[]⟩, .int .u64 0, .int .u64 0]) rfl
  clear hr3
  go_wp2_with fail
  refine (k4 _ hs3.rd).mono ?_
  rintro e w4 ⟨rfl, hr, hb⟩
  have hr4 := hs3.read hS hr hb
  clear hr hb hs3 k4
  have c7 : w4.cell? ⟨w.heap.size + 1, 7, none⟩ = some (.int .u32 0) := hr4.cell 7 rfl
  have f7 : w4.frozen? ⟨w.heap.size + 1, 7, none⟩ = false := hr4.frozen 7
  have hs4 := hr4.set fr 7 (.int .u32 (n4 : Int)) (cs' := #[.int .i64 6, .int .i64 (n2 : Int), .int .u32 (n3 : Int), .int .i64 0, .int .i64 0, .int .i64 0, .int .u64 0, .int .u32 (n4 : Int), .int .i64 0, .int .u64 0, .string ⟨#[]⟩, .string ⟨#[]⟩, .int .u64 0, .int .u64 0]) rfl
  clear hr4
  have hbox := hs4.box
  have hres := hs4.res
  have hrd := hs4.rd
  have hbut := hs4.but
  have HBX := Lib.hid (show _ = _ from hbox)
  have hlt1 := hbox.lt
  have hlt2 := hres.lt
  clear hs4
  have hone : (#[.int .i64 6, .int .i64 (n2 : Int), .int .u32 (n3 : Int), .int .i64 0, .int .i64 0, .int .i64 0, .int .u64 0, .int .u32 (n4 : Int), .int .i64 0, .int .u64 0, .string ⟨#[]⟩, .string ⟨#[]⟩, .int .u64 0, .int .u64 0] : Array Value).all (fun x => x.oneCell') = true := by simp [Value.oneCell']
  have HONE := Lib.hid hone
  clear hone
  have HOLD := Lib.hid (show (#[.int .i64 0, .int .i64 0, .int .u32 0, .int .i64 0, .int .i64 0, .int .i64 0, .int .u64 0, .int .u32 0, .int .i64 0, .int .u64 0, .string ⟨#[]⟩, .string ⟨#[]⟩, .int .u64 0, .int .u64 0] : Array Value).size = (#[.int .i64 6, .int .i64 (n2 : Int), .int .u32 (n3 : Int), .int .i64 0, .int .i64 0, .int .i64 0, .int .u64 0, .int .u32 (n4 : Int), .int .i64 0, .int .u64 0, .string ⟨#[]⟩, .string ⟨#[]⟩, .int .u64 0, .int .u64 0] : Array Value).size by simp)
  have HSZ := Lib.hid (rec_size.trans (show some 14 = some (#[.int .i64 6, .int .i64 (n2 : Int), .int .u32 (n3 : Int), .int .i64 0, .int .i64 0, .int .i64 0, .int .u64 0, .int .u32 (n4 : Int), .int .i64 0, .int .u64 0, .string ⟨#[]⟩, .string ⟨#[]⟩, .int .u64 0, .int .u64 0] : Array Value).size by simp))
  have H0 := Lib.hid (And.intro hbox (And.intro hres (And.intro hrd (And.intro hbut (And.intro hlt1 hlt2)))))
  clear hbox hres hrd hbut hlt1 hlt2
  go_wp2_with (refine wpList_load_row rfl 56 _ rfl (w.heap.size + 1) rfl 56 _ (0, 0) _ HBX.out Try.underlying56 rfl HSZ.out ?_)
  refine (HM.out _).mono ?_
  rintro e wM ⟨rfl, hbM⟩
  obtain ⟨hbox, hres, hrd, hbut, hlt1, hlt2⟩ := H0.out
  have hM : But (fun _ => False) _ wM := But.of_new hbM
  have hbox2 := hbox.but hM (fun e => e)
  have hres2 := hres.but hM (fun e => e)
  have hbut2 := hbut.trans hM (fun _ _ e => e.elim)
  have hrd2 := fr _ _ _ hrd (hM.mono (fun _ _ e => e.elim))
  have hsh := Rf.short hrd2
  obtain ⟨sh, hshe⟩ : ∃ s, s = p4.short := ⟨_, rfl⟩
  rw [← hshe] at hsh
  have HSE := Lib.hid hshe
  have HX := Lib.hid (And.intro hbut2 hrd2)
  have HBX2 := Lib.hid hbox2
  have HRX2 := Lib.hid hres2
  have HSH := Lib.hid hsh
  have hne : w.heap.size + 1 ≠ w.heap.size := by omega
  have hqne : q ≠ w.heap.size := by omega
  have HROWB := Lib.hid (fun cs' => but_setRow (fun k => k = w.heap.size) ((But.refl (fun k => k = w.heap.size) wM).drew) (.inl rfl) cs')
  clear hbM hbox hres hrd hbut hlt1 hlt2 hM hbox2 hres2 hbut2 hrd2 hsh hshe H0 HBX
  cases y
  · have hzz : z = false := by rw [HZ.out]; rfl
    have HZZ := Lib.hid hzz
    clear hzz HZ
    go_wp2_with fail
    refine Late.region_goes (fun u => Blk u (w.heap.size + 1) 56 #[.int .i64 6, .int .i64 (n2 : Int), .int .u32 (n3 : Int), .int .i64 0, .int .i64 0, .int .i64 0, .int .u64 0, .int .u32 (n4 : Int), .int .i64 0, .int .u64 0, .string ⟨#[]⟩, .string ⟨#[]⟩, .int .u64 0, .int .u64 0] ∧ u.cell? ⟨q, 2, none⟩ = some (.bool sh)) (fun _ => false) (by kernel_rfl) ?_ (fun hH => ?_)
    · exact ⟨HBX2.out, HSH.out⟩
    refine Late.Goes.take (i := 0) (v := ?_) (by simp only [List.getElem?_toArray, List.getElem?_cons_succ, List.getElem?_cons_zero]; rfl) (by kernel_rfl) (by kernel_rfl) (by kernel_rfl) (by kernel_rfl) (by exact fun _ _ _ h => h) (Or.inl ⟨by rfl, ?_⟩) hH ?_
    rotate_left
    · (intro wy hSw; (try dsimp only at hSw); have c0 : wy.cell? ⟨w.heap.size + 1, 0, none⟩ = some (.int .i64 6) := (Blk.cell hSw.1 0).trans rfl; have c1 : wy.cell? ⟨w.heap.size + 1, 1, none⟩ = some (.int .i64 (n2 : Int)) := (Blk.cell hSw.1 1).trans rfl; have c2 : wy.cell? ⟨w.heap.size + 1, 2, none⟩ = some (.int .u32 (n3 : Int)) := (Blk.cell hSw.1 2).trans rfl; have c3 : wy.cell? ⟨w.heap.size + 1, 3, none⟩ = some (.int .i64 0) := (Blk.cell hSw.1 3).trans rfl; have c4 : wy.cell? ⟨w.heap.size + 1, 4, none⟩ = some (.int .i64 0) := (Blk.cell hSw.1 4).trans rfl; have c5 : wy.cell? ⟨w.heap.size + 1, 5, none⟩ = some (.int .i64 0) := (Blk.cell hSw.1 5).trans rfl; have c6 : wy.cell? ⟨w.heap.size + 1, 6, none⟩ = some (.int .u64 0) := (Blk.cell hSw.1 6).trans rfl; have c7 : wy.cell? ⟨w.heap.size + 1, 7, none⟩ = some (.int .u32 (n4 : Int)) := (Blk.cell hSw.1 7).trans rfl; have c8 : wy.cell? ⟨w.heap.size + 1, 8, none⟩ = some (.int .i64 0) := (Blk.cell hSw.1 8).trans rfl; have c9 : wy.cell? ⟨w.heap.size + 1, 9, none⟩ = some (.int .u64 0) := (Blk.cell hSw.1 9).trans rfl; have c10 : wy.cell? ⟨w.heap.size + 1, 10, none⟩ = some (.string ⟨#[]⟩) := (Blk.cell hSw.1 10).trans rfl; have c11 : wy.cell? ⟨w.heap.size + 1, 11, none⟩ = some (.string ⟨#[]⟩) := (Blk.cell hSw.1 11).trans rfl; have c12 : wy.cell? ⟨w.heap.size + 1, 12, none⟩ = some (.int .u64 0) := (Blk.cell hSw.1 12).trans rfl; have c13 : wy.cell? ⟨w.heap.size + 1, 13, none⟩ = some (.int .u64 0) := (Blk.cell hSw.1 13).trans rfl; go_simp; try (with_reducible rfl))
    try simp only [Act.put, List.setIfInBounds_toArray, List.set_cons_zero, List.set_cons_succ]
    refine Late.Goes.take (i := 1) (v := ?_) (by simp only [List.getElem?_toArray, List.getElem?_cons_succ, List.getElem?_cons_zero]; rfl) (by kernel_rfl) (by kernel_rfl) (by kernel_rfl) (by kernel_rfl) (by exact fun _ _ _ h => h) (Or.inl ⟨by rfl, ?_⟩) hH ?_
    rotate_left
    · (intro wy hSw; (try dsimp only at hSw); go_simp; try (with_reducible rfl))
    try simp only [Act.put, List.setIfInBounds_toArray, List.set_cons_zero, List.set_cons_succ]
    refine Late.Goes.take (i := 2) (v := ?_) (by simp only [List.getElem?_toArray, List.getElem?_cons_succ, List.getElem?_cons_zero]; rfl) (by kernel_rfl) (by kernel_rfl) (by kernel_rfl) (by kernel_rfl) (by exact fun _ _ _ h => h) (Or.inl ⟨by rfl, ?_⟩) hH ?_
    rotate_left
    · (intro wy hSw; (try dsimp only at hSw); go_simp; try (with_reducible rfl))
    try simp only [Act.put, List.setIfInBounds_toArray, List.set_cons_zero, List.set_cons_succ]
    refine Late.Goes.take (i := 3) (v := undef) (by simp only [List.getElem?_toArray, List.getElem?_cons_succ, List.getElem?_cons_zero]; rfl) (by kernel_rfl) (by kernel_rfl) (by kernel_rfl) (by kernel_rfl) (by exact fun _ _ _ h => h) (Or.inr ⟨by rfl, rfl⟩) hH ?_
    try simp only [Act.put, List.setIfInBounds_toArray, List.set_cons_zero, List.set_cons_succ]
    refine Late.Goes.take (i := 4) (v := undef) (by simp only [List.getElem?_toArray, List.getElem?_cons_succ, List.getElem?_cons_zero]; rfl) (by kernel_rfl) (by kernel_rfl) (by kernel_rfl) (by kernel_rfl) (by exact fun _ _ _ h => h) (Or.inr ⟨by rfl, rfl⟩) hH ?_
    try simp only [Act.put, List.setIfInBounds_toArray, List.set_cons_zero, List.set_cons_succ]
    refine Late.Goes.take (i := 5) (v := undef) (by simp only [List.getElem?_toArray, List.getElem?_cons_succ, List.getElem?_cons_zero]; rfl) (by kernel_rfl) (by kernel_rfl) (by kernel_rfl) (by kernel_rfl) (by exact fun _ _ _ h => h) (Or.inr ⟨by rfl, rfl⟩) hH ?_
    try simp only [Act.put, List.setIfInBounds_toArray, List.set_cons_zero, List.set_cons_succ]
    refine Late.Goes.take (i := 6) (v := undef) (by simp only [List.getElem?_toArray, List.getElem?_cons_succ, List.getElem?_cons_zero]; rfl) (by kernel_rfl) (by kernel_rfl) (by kernel_rfl) (by kernel_rfl) (by exact fun _ _ _ h => h) (Or.inr ⟨by rfl, rfl⟩) hH ?_
    try simp only [Act.put, List.setIfInBounds_toArray, List.set_cons_zero, List.set_cons_succ]
    refine Late.Goes.take (i := 7) (v := undef) (by simp only [List.getElem?_toArray, List.getElem?_cons_succ, List.getElem?_cons_zero]; rfl) (by kernel_rfl) (by kernel_rfl) (by kernel_rfl) (by kernel_rfl) (by exact fun _ _ _ h => h) (Or.inr ⟨by rfl, rfl⟩) hH ?_
    try simp only [Act.put, List.setIfInBounds_toArray, List.set_cons_zero, List.set_cons_succ]
    refine Late.Goes.take (i := 8) (v := ?_) (by simp only [List.getElem?_toArray, List.getElem?_cons_succ, List.getElem?_cons_zero]; rfl) (by kernel_rfl) (by kernel_rfl) (by kernel_rfl) (by kernel_rfl) (by exact fun _ _ _ h => h) (Or.inl ⟨by rfl, ?_⟩) hH ?_
    rotate_left
    · (intro wy hSw; (try dsimp only at hSw); go_simp; try (with_reducible rfl))
    try simp only [Act.put, List.setIfInBounds_toArray, List.set_cons_zero, List.set_cons_succ]
    refine Late.Goes.one (i := 9) (by kernel_rfl) (by simp only [List.getElem?_toArray, List.getElem?_cons_succ, List.getElem?_cons_zero]; rfl) (fun K hK => ?_)
    clear hH
    rw [if_pos (by rfl)]
    refine wp_store_row 56 _ _ rfl w.heap.size #[.int .i64 6, .int .i64 (n2 : Int), .int .u32 (n3 : Int), .int .i64 0, .int .i64 0, .int .i64 0, .int .u64 0, .int .u32 (n4 : Int), .int .i64 0, .int .u64 0, .string ⟨#[]⟩, .string ⟨#[]⟩, .int .u64 0, .int .u64 0] (by rfl) (by rfl) 56 #[.int .i64 0, .int .i64 0, .int .u32 0, .int .i64 0, .int .i64 0, .int .i64 0, .int .u64 0, .int .u32 0, .int .i64 0, .int .u64 0, .string ⟨#[]⟩, .string ⟨#[]⟩, .int .u64 0, .int .u64 0] HRX2.out HSZ.out HOLD.out HONE.out ?_
    refine hK.out _ _ ?_ (fun hH => ?_)
    · exact fun _ => ⟨HBX2.out.but (T := fun k => k = w.heap.size) (HROWB.out _) hne, (But.cell (HROWB.out _) (p := ⟨q, 2, none⟩) (World.block_lt_of_cell? wM ⟨q, 2, none⟩ HSH.out) hqne).trans HSH.out⟩
    clear hK K
    have hH := hH rfl
    try simp only [Act.put, List.setIfInBounds_toArray, List.set_cons_zero, List.set_cons_succ]
    refine Late.Goes.one (i := 10) (by kernel_rfl) (by simp only [List.getElem?_toArray, List.getElem?_cons_succ, List.getElem?_cons_zero]; rfl) (fun K hK => ?_)
    have hH0 := hH
    clear hH
    go_simp
    refine hK.out _ _ ?_ (fun hH => ?_)
    · exact fun _ => hH0
    clear hK K
    have hH := hH rfl
    try simp only [Act.put, List.setIfInBounds_toArray, List.set_cons_zero, List.set_cons_succ]
    refine Late.Goes.done (by kernel_rfl) ?_ _
    go_wp2_with fail
    refine bodyPost_ret (results_row_tmp rfl _ _ w.heap.size 56 #[.int .i64 6, .int .i64 (n2 : Int), .int .u32 (n3 : Int), .int .i64 0, .int .i64 0, .int .i64 0, .int .u64 0, .int .u32 (n4 : Int), .int .i64 0, .int .u64 0, .string ⟨#[]⟩, .string ⟨#[]⟩, .int .u64 0, .int .u64 0] (0, 0) _ rfl (setRow_heap _ _ _ _ _ _ HRX2.out) Try.underlying56 rfl HSZ.out) rfl ?_
    refine ⟨by rw [HZZ.out]; rfl, fr _ _ _ HX.out.2 ((HROWB.out _).mono (fun j _ e => Nat.le_of_eq (show j = w.heap.size from e).symm)), HX.out.1.trans (HROWB.out _) (fun j hj e => absurd hj (by have : j = w.heap.size := e; omega))⟩
  · have hzz : z = !sh := by rw [HZ.out, HSE.out]; rfl
    have HZZ := Lib.hid hzz
    clear hzz HZ
    go_wp2_with fail
    refine Late.region_goes (fun u => Blk u (w.heap.size + 1) 56 #[.int .i64 6, .int .i64 (n2 : Int), .int .u32 (n3 : Int), .int .i64 0, .int .i64 0, .int .i64 0, .int .u64 0, .int .u32 (n4 : Int), .int .i64 0, .int .u64 0, .string ⟨#[]⟩, .string ⟨#[]⟩, .int .u64 0, .int .u64 0] ∧ u.cell? ⟨q, 2, none⟩ = some (.bool sh)) (fun _ => false) (by kernel_rfl) ?_ (fun hH => ?_)
    · exact ⟨HBX2.out, HSH.out⟩
    refine Late.Goes.take (i := 0) (v := ?_) (by simp only [List.getElem?_toArray, List.getElem?_cons_succ, List.getElem?_cons_zero]; rfl) (by kernel_rfl) (by kernel_rfl) (by kernel_rfl) (by kernel_rfl) (by exact fun _ _ _ h => h) (Or.inl ⟨by rfl, ?_⟩) hH ?_
    rotate_left
    · (intro wy hSw; (try dsimp only at hSw); have c0 : wy.cell? ⟨w.heap.size + 1, 0, none⟩ = some (.int .i64 6) := (Blk.cell hSw.1 0).trans rfl; have c1 : wy.cell? ⟨w.heap.size + 1, 1, none⟩ = some (.int .i64 (n2 : Int)) := (Blk.cell hSw.1 1).trans rfl; have c2 : wy.cell? ⟨w.heap.size + 1, 2, none⟩ = some (.int .u32 (n3 : Int)) := (Blk.cell hSw.1 2).trans rfl; have c3 : wy.cell? ⟨w.heap.size + 1, 3, none⟩ = some (.int .i64 0) := (Blk.cell hSw.1 3).trans rfl; have c4 : wy.cell? ⟨w.heap.size + 1, 4, none⟩ = some (.int .i64 0) := (Blk.cell hSw.1 4).trans rfl; have c5 : wy.cell? ⟨w.heap.size + 1, 5, none⟩ = some (.int .i64 0) := (Blk.cell hSw.1 5).trans rfl; have c6 : wy.cell? ⟨w.heap.size + 1, 6, none⟩ = some (.int .u64 0) := (Blk.cell hSw.1 6).trans rfl; have c7 : wy.cell? ⟨w.heap.size + 1, 7, none⟩ = some (.int .u32 (n4 : Int)) := (Blk.cell hSw.1 7).trans rfl; have c8 : wy.cell? ⟨w.heap.size + 1, 8, none⟩ = some (.int .i64 0) := (Blk.cell hSw.1 8).trans rfl; have c9 : wy.cell? ⟨w.heap.size + 1, 9, none⟩ = some (.int .u64 0) := (Blk.cell hSw.1 9).trans rfl; have c10 : wy.cell? ⟨w.heap.size + 1, 10, none⟩ = some (.string ⟨#[]⟩) := (Blk.cell hSw.1 10).trans rfl; have c11 : wy.cell? ⟨w.heap.size + 1, 11, none⟩ = some (.string ⟨#[]⟩) := (Blk.cell hSw.1 11).trans rfl; have c12 : wy.cell? ⟨w.heap.size + 1, 12, none⟩ = some (.int .u64 0) := (Blk.cell hSw.1 12).trans rfl; have c13 : wy.cell? ⟨w.heap.size + 1, 13, none⟩ = some (.int .u64 0) := (Blk.cell hSw.1 13).trans rfl; go_simp; try (with_reducible rfl))
    try simp only [Act.put, List.setIfInBounds_toArray, List.set_cons_zero, List.set_cons_succ]
    refine Late.Goes.take (i := 1) (v := ?_) (by simp only [List.getElem?_toArray, List.getElem?_cons_succ, List.getElem?_cons_zero]; rfl) (by kernel_rfl) (by kernel_rfl) (by kernel_rfl) (by kernel_rfl) (by exact fun _ _ _ h => h) (Or.inl ⟨by rfl, ?_⟩) hH ?_
    rotate_left
    · (intro wy hSw; (try dsimp only at hSw); go_simp; try (with_reducible rfl))
    try simp only [Act.put, List.setIfInBounds_toArray, List.set_cons_zero, List.set_cons_succ]
    refine Late.Goes.take (i := 2) (v := ?_) (by simp only [List.getElem?_toArray, List.getElem?_cons_succ, List.getElem?_cons_zero]; rfl) (by kernel_rfl) (by kernel_rfl) (by kernel_rfl) (by kernel_rfl) (by exact fun _ _ _ h => h) (Or.inl ⟨by rfl, ?_⟩) hH ?_
    rotate_left
    · (intro wy hSw; (try dsimp only at hSw); go_simp; try (with_reducible rfl))
    try simp only [Act.put, List.setIfInBounds_toArray, List.set_cons_zero, List.set_cons_succ]
    refine Late.Goes.take (i := 3) (v := ?_) (by simp only [List.getElem?_toArray, List.getElem?_cons_succ, List.getElem?_cons_zero]; rfl) (by kernel_rfl) (by kernel_rfl) (by kernel_rfl) (by kernel_rfl) (by exact fun _ _ _ h => h) (Or.inl ⟨by rfl, ?_⟩) hH ?_
    rotate_left
    · (intro wy hSw; (try dsimp only at hSw); have c2 := hSw.2; go_simp; try (with_reducible rfl))
    try simp only [Act.put, List.setIfInBounds_toArray, List.set_cons_zero, List.set_cons_succ]
    refine Late.Goes.take (i := 4) (v := ?_) (by simp only [List.getElem?_toArray, List.getElem?_cons_succ, List.getElem?_cons_zero]; rfl) (by kernel_rfl) (by kernel_rfl) (by kernel_rfl) (by kernel_rfl) (by exact fun _ _ _ h => h) (Or.inl ⟨by rfl, ?_⟩) hH ?_
    rotate_left
    · (intro wy hSw; (try dsimp only at hSw); have c2 := hSw.2; go_simp; try (with_reducible rfl))
    try simp only [Act.put, List.setIfInBounds_toArray, List.set_cons_zero, List.set_cons_succ]
    refine Late.Goes.take (i := 5) (v := ?_) (by simp only [List.getElem?_toArray, List.getElem?_cons_succ, List.getElem?_cons_zero]; rfl) (by kernel_rfl) (by kernel_rfl) (by kernel_rfl) (by kernel_rfl) (by exact fun _ _ _ h => h) (Or.inl ⟨by rfl, ?_⟩) hH ?_
    rotate_left
    · (intro wy hSw; (try dsimp only at hSw); have c2 := hSw.2; go_simp; try (with_reducible rfl))
    try simp only [Act.put, List.setIfInBounds_toArray, List.set_cons_zero, List.set_cons_succ]
    refine Late.Goes.take (i := 6) (v := ?_) (by simp only [List.getElem?_toArray, List.getElem?_cons_succ, List.getElem?_cons_zero]; rfl) (by kernel_rfl) (by kernel_rfl) (by kernel_rfl) (by kernel_rfl) (by exact fun _ _ _ h => h) (Or.inl ⟨by rfl, ?_⟩) hH ?_
    rotate_left
    · (intro wy hSw; (try dsimp only at hSw); have c2 := hSw.2; go_simp; try (with_reducible rfl))
    try simp only [Act.put, List.setIfInBounds_toArray, List.set_cons_zero, List.set_cons_succ]
    refine Late.Goes.take (i := 7) (v := ?_) (by simp only [List.getElem?_toArray, List.getElem?_cons_succ, List.getElem?_cons_zero]; rfl) (by kernel_rfl) (by kernel_rfl) (by kernel_rfl) (by kernel_rfl) (by exact fun _ _ _ h => h) (Or.inl ⟨by rfl, ?_⟩) hH ?_
    rotate_left
    · (intro wy hSw; (try dsimp only at hSw); have c2 := hSw.2; go_simp; try (with_reducible rfl))
    try simp only [Act.put, List.setIfInBounds_toArray, List.set_cons_zero, List.set_cons_succ]
    refine Late.Goes.take (i := 8) (v := ?_) (by simp only [List.getElem?_toArray, List.getElem?_cons_succ, List.getElem?_cons_zero]; rfl) (by kernel_rfl) (by kernel_rfl) (by kernel_rfl) (by kernel_rfl) (by exact fun _ _ _ h => h) (Or.inl ⟨by rfl, ?_⟩) hH ?_
    rotate_left
    · (intro wy hSw; (try dsimp only at hSw); go_simp; try (with_reducible rfl))
    try simp only [Act.put, List.setIfInBounds_toArray, List.set_cons_zero, List.set_cons_succ]
    refine Late.Goes.one (i := 9) (by kernel_rfl) (by simp only [List.getElem?_toArray, List.getElem?_cons_succ, List.getElem?_cons_zero]; rfl) (fun K hK => ?_)
    clear hH
    rw [if_pos (by rfl)]
    refine wp_store_row 56 _ _ rfl w.heap.size #[.int .i64 6, .int .i64 (n2 : Int), .int .u32 (n3 : Int), .int .i64 0, .int .i64 0, .int .i64 0, .int .u64 0, .int .u32 (n4 : Int), .int .i64 0, .int .u64 0, .string ⟨#[]⟩, .string ⟨#[]⟩, .int .u64 0, .int .u64 0] (by rfl) (by rfl) 56 #[.int .i64 0, .int .i64 0, .int .u32 0, .int .i64 0, .int .i64 0, .int .i64 0, .int .u64 0, .int .u32 0, .int .i64 0, .int .u64 0, .string ⟨#[]⟩, .string ⟨#[]⟩, .int .u64 0, .int .u64 0] HRX2.out HSZ.out HOLD.out HONE.out ?_
    refine hK.out _ _ ?_ (fun hH => ?_)
    · exact fun _ => ⟨HBX2.out.but (T := fun k => k = w.heap.size) (HROWB.out _) hne, (But.cell (HROWB.out _) (p := ⟨q, 2, none⟩) (World.block_lt_of_cell? wM ⟨q, 2, none⟩ HSH.out) hqne).trans HSH.out⟩
    clear hK K
    have hH := hH rfl
    try simp only [Act.put, List.setIfInBounds_toArray, List.set_cons_zero, List.set_cons_succ]
    refine Late.Goes.one (i := 10) (by kernel_rfl) (by simp only [List.getElem?_toArray, List.getElem?_cons_succ, List.getElem?_cons_zero]; rfl) (fun K hK => ?_)
    have hH0 := hH
    clear hH
    go_simp
    refine hK.out _ _ ?_ (fun hH => ?_)
    · exact fun _ => hH0
    clear hK K
    have hH := hH rfl
    try simp only [Act.put, List.setIfInBounds_toArray, List.set_cons_zero, List.set_cons_succ]
    refine Late.Goes.done (by kernel_rfl) ?_ _
    go_wp2_with fail
    refine bodyPost_ret (results_row_tmp rfl _ _ w.heap.size 56 #[.int .i64 6, .int .i64 (n2 : Int), .int .u32 (n3 : Int), .int .i64 0, .int .i64 0, .int .i64 0, .int .u64 0, .int .u32 (n4 : Int), .int .i64 0, .int .u64 0, .string ⟨#[]⟩, .string ⟨#[]⟩, .int .u64 0, .int .u64 0] (0, 0) _ rfl (setRow_heap _ _ _ _ _ _ HRX2.out) Try.underlying56 rfl HSZ.out) rfl ?_
    refine ⟨by rw [HZZ.out]; rfl, fr _ _ _ HX.out.2 ((HROWB.out _).mono (fun j _ e => Nat.le_of_eq (show j = w.heap.size from e).symm)), HX.out.1.trans (HROWB.out _) (fun j hj e => absurd hj (by have : j = w.heap.size := e; omega))⟩
end Go.Proofs.Ytgfhcbdhggnbaaa.Rec

/- Whether two requests are the same, as the document says. -/
import Derived.Test.YtbdbbnpkekcefaaGCmdSame
namespace Go.Proofs.Ytbdbbnpkekcefaa.Cmd
open Go.Proofs.Ytbdbbnpkekcefaa.Mem Go.Proofs.Ytbdbbnpkekcefaa.Pack
open Go.ChangeShapes Go.WideShapes Go.ChangeAt Go.RowKit
set_option linter.unusedVariables false
set_option linter.unusedSimpArgs false

set_option maxRecDepth 100000 in
set_option maxHeartbeats 8000000 in
theorem rsame_any (p q : Rq) (sv1 sv2 : Value) (w : World) (h1 : OpsAt w sv1 p.ops) (h2 : OpsAt w sv2 q.ops) (hs1 : p.ops.length ≤ 1000000) (hs2 : q.ops.length ≤ 1000000) :
    Calls Try.prog 10 #[rv p sv1, rv q sv2] w fun e w' => SameIs p q w e w' := by
  obtain ⟨t1, a1, b1, ⟨k1, y1, g1⟩, ⟨tb1, tg1, ts1, tx1⟩, l1, s1, f1, c1, r1, n1⟩ := p
  obtain ⟨t2, a2, b2, ⟨k2, y2, g2⟩, ⟨tb2, tg2, ts2, tx2⟩, l2, s2, f2, c2, r2, n2⟩ := q
  have h1 : OpsAt w sv1 l1 := h1
  have h2 : OpsAt w sv2 l2 := h2
  have hs1 : l1.length ≤ 1000000 := hs1
  have hs2 : l2.length ≤ 1000000 := hs2
  simp only [rv, rcells]
  have hb0 : But (fun _ => False) w ((w.alloc (.cells #[.int .i64 t1, .int .u64 (a1 : Int), .int .i64 b1, .int .i64 k1, .int .i64 y1, .int .i64 g1, .int .i64 tb1, .int .u32 (tg1 : Int), .int .u32 (ts1 : Int), .int .u64 (tx1 : Int), sv1, .string s1, .bool f1, .int .i64 c1, .int .i64 r1, .int .u32 (n1 : Int)] 39)).alloc (.cells #[.int .i64 t2, .int .u64 (a2 : Int), .int .i64 b2, .int .i64 k2, .int .i64 y2, .int .i64 g2, .int .i64 tb2, .int .u32 (tg2 : Int), .int .u32 (ts2 : Int), .int .u64 (tx2 : Int), sv2, .string s2, .bool f2, .int .i64 c2, .int .i64 r2, .int .u32 (n2 : Int)] 39)) := ((But.refl _ w).alloc _).alloc _
  have HB := Lib.hid hb0
  have hbx := Blk.two w #[.int .i64 t1, .int .u64 (a1 : Int), .int .i64 b1, .int .i64 k1, .int .i64 y1, .int .i64 g1, .int .i64 tb1, .int .u32 (tg1 : Int), .int .u32 (ts1 : Int), .int .u64 (tx1 : Int), sv1, .string s1, .bool f1, .int .i64 c1, .int .i64 r1, .int .u32 (n1 : Int)] #[.int .i64 t2, .int .u64 (a2 : Int), .int .i64 b2, .int .i64 k2, .int .i64 y2, .int .i64 g2, .int .i64 tb2, .int .u32 (tg2 : Int), .int .u32 (ts2 : Int), .int .u64 (tx2 : Int), sv2, .string s2, .bool f2, .int .i64 c2, .int .i64 r2, .int .u32 (n2 : Int)] 39 39
  have HBX := Lib.hid hbx
  have HS := Lib.hid (And.intro h1 (And.intro h2 (And.intro hs1 hs2)))
  clear hbx hb0 h1 h2 hs1 hs2
  by_cases hd : t1 = t2
  rotate_left
  · have HN : Hid ((⟨t1, a1, b1, ⟨k1, y1, g1⟩, ⟨tb1, tg1, ts1, tx1⟩, l1, s1, f1, c1, r1, n1⟩ : Rq) ≠ (⟨t2, a2, b2, ⟨k2, y2, g2⟩, ⟨tb2, tg2, ts2, tx2⟩, l2, s2, f2, c2, r2, n2⟩ : Rq)) := Lib.hid (fun e => hd (congrArg Rq.tag e))
    have h0 : (t1 != t2) = true := bne_iff_ne.2 (by omega)
    clear hd 
    go_enter Try.func10, Try.ntmps10
    go_wp2_with fail
    go_ret
    exact ⟨false, rfl, ⟨(fun h => by cases h), fun h => absurd h HN.out⟩, HB.out⟩
  subst hd
  by_cases hd : a1 = a2
  rotate_left
  · have HN : Hid ((⟨t1, a1, b1, ⟨k1, y1, g1⟩, ⟨tb1, tg1, ts1, tx1⟩, l1, s1, f1, c1, r1, n1⟩ : Rq) ≠ (⟨t1, a2, b2, ⟨k2, y2, g2⟩, ⟨tb2, tg2, ts2, tx2⟩, l2, s2, f2, c2, r2, n2⟩ : Rq)) := Lib.hid (fun e => hd (congrArg Rq.admin e))
    have h0 : ((a1 : Int) != (a2 : Int)) = true := bne_iff_ne.2 (by omega)
    clear hd 
    go_enter Try.func10, Try.ntmps10
    go_wp2_with fail
    go_ret
    exact ⟨false, rfl, ⟨(fun h => by cases h), fun h => absurd h HN.out⟩, HB.out⟩
  subst hd
  by_cases hd : b1 = b2
  rotate_left
  · have HN : Hid ((⟨t1, a1, b1, ⟨k1, y1, g1⟩, ⟨tb1, tg1, ts1, tx1⟩, l1, s1, f1, c1, r1, n1⟩ : Rq) ≠ (⟨t1, a1, b2, ⟨k2, y2, g2⟩, ⟨tb2, tg2, ts2, tx2⟩, l2, s2, f2, c2, r2, n2⟩ : Rq)) := Lib.hid (fun e => hd (congrArg Rq.bucket e))
    have h0 : (b1 != b2) = true := bne_iff_ne.2 (by omega)
    clear hd 
    go_enter Try.func10, Try.ntmps10
    go_wp2_with fail
    go_ret
    exact ⟨false, rfl, ⟨(fun h => by cases h), fun h => absurd h HN.out⟩, HB.out⟩
  subst hd
  have hqe := fun w => quo_equal ⟨k1, y1, g1⟩ ⟨k2, y2, g2⟩ w
  have hql := fun w => quo_neq ⟨k1, y1, g1⟩ ⟨k2, y2, g2⟩ w
  have hqi := quoEq_iff ⟨k1, y1, g1⟩ ⟨k2, y2, g2⟩
  obtain ⟨z, hz⟩ : ∃ z, z = quoEq ⟨k1, y1, g1⟩ ⟨k2, y2, g2⟩ := ⟨_, rfl⟩
  rw [← hz] at hqe hql hqi
  simp only [qv] at hqe hql
  clear hz
  by_cases hd : (⟨k1, y1, g1⟩ : Quo) = ⟨k2, y2, g2⟩
  rotate_left
  · have HN : Hid ((⟨t1, a1, b1, ⟨k1, y1, g1⟩, ⟨tb1, tg1, ts1, tx1⟩, l1, s1, f1, c1, r1, n1⟩ : Rq) ≠ (⟨t1, a1, b1, ⟨k2, y2, g2⟩, ⟨tb2, tg2, ts2, tx2⟩, l2, s2, f2, c2, r2, n2⟩ : Rq)) := Lib.hid (fun e => hd (congrArg Rq.quo e))
    have hzf : z = false := by cases z; rfl; exact absurd (hqi.1 rfl) hd
    subst hzf
    try simp only [Bool.not_false] at hql
    clear hd hqi
    go_enter Try.func10, Try.ntmps10
    go_wp2_with fail
    go_ret
    exact ⟨false, rfl, ⟨(fun h => by cases h), fun h => absurd h HN.out⟩, HB.out⟩
  have hzt : z = true := hqi.2 hd
  subst hzt
  injection hd with hd1 hd2 hd3
  subst hd1 hd2 hd3
  try simp only [Bool.not_true] at hql
  clear hqi
  have hte := fun w => tok_equal ⟨tb1, tg1, ts1, tx1⟩ ⟨tb2, tg2, ts2, tx2⟩ w
  have htl := fun w => tok_neq ⟨tb1, tg1, ts1, tx1⟩ ⟨tb2, tg2, ts2, tx2⟩ w
  have hti := tokEq_iff ⟨tb1, tg1, ts1, tx1⟩ ⟨tb2, tg2, ts2, tx2⟩
  obtain ⟨z, hz⟩ : ∃ z, z = tokEq ⟨tb1, tg1, ts1, tx1⟩ ⟨tb2, tg2, ts2, tx2⟩ := ⟨_, rfl⟩
  rw [← hz] at hte htl hti
  simp only [tv] at hte htl
  clear hz
  by_cases hd : (⟨tb1, tg1, ts1, tx1⟩ : Tok) = ⟨tb2, tg2, ts2, tx2⟩
  rotate_left
  · have HN : Hid ((⟨t1, a1, b1, ⟨k1, y1, g1⟩, ⟨tb1, tg1, ts1, tx1⟩, l1, s1, f1, c1, r1, n1⟩ : Rq) ≠ (⟨t1, a1, b1, ⟨k1, y1, g1⟩, ⟨tb2, tg2, ts2, tx2⟩, l2, s2, f2, c2, r2, n2⟩ : Rq)) := Lib.hid (fun e => hd (congrArg Rq.tok e))
    have hzf : z = false := by cases z; rfl; exact absurd (hti.1 rfl) hd
    subst hzf
    try simp only [Bool.not_false] at htl
    clear hd hti
    go_enter Try.func10, Try.ntmps10
    go_wp2_with fail
    go_ret
    exact ⟨false, rfl, ⟨(fun h => by cases h), fun h => absurd h HN.out⟩, HB.out⟩
  have hzt : z = true := hti.2 hd
  subst hzt
  injection hd with hd1 hd2 hd3 hd4
  subst hd1 hd2 hd3 hd4
  try simp only [Bool.not_true] at htl
  clear hti
  obtain ⟨xa, xc, hsv1, hx1⟩ := HS.out.1
  obtain ⟨ya, yc, hsv2, hx2⟩ := HS.out.2.1
  subst hsv1 hsv2
  clear hx1 hx2
  by_cases hd : l1.length = l2.length
  rotate_left
  · have HN : Hid ((⟨t1, a1, b1, ⟨k1, y1, g1⟩, ⟨tb1, tg1, ts1, tx1⟩, l1, s1, f1, c1, r1, n1⟩ : Rq) ≠ (⟨t1, a1, b1, ⟨k1, y1, g1⟩, ⟨tb1, tg1, ts1, tx1⟩, l2, s2, f2, c2, r2, n2⟩ : Rq)) := Lib.hid (fun e => hd (congrArg (fun q => q.ops.length) e))
    have h0 : ((l1.length : Int) != (l2.length : Int)) = true := bne_iff_ne.2 (by omega)
    clear hd
    go_enter Try.func10, Try.ntmps10
    go_wp2_with fail
    go_ret
    exact ⟨false, rfl, ⟨(fun h => by cases h), fun h => absurd h HN.out⟩, HB.out⟩
  have hlen : ((l1.length : Int) != (l2.length : Int)) = false := by rw [hd]; simp
  have HLEN := Lib.hid hd
  clear hd
  by_cases hd : s1 = s2
  rotate_left
  · have HN : Hid ((⟨t1, a1, b1, ⟨k1, y1, g1⟩, ⟨tb1, tg1, ts1, tx1⟩, l1, s1, f1, c1, r1, n1⟩ : Rq) ≠ (⟨t1, a1, b1, ⟨k1, y1, g1⟩, ⟨tb1, tg1, ts1, tx1⟩, l2, s2, f2, c2, r2, n2⟩ : Rq)) := Lib.hid (fun e => hd (congrArg Rq.after e))
    have h0 : (s1.toList == s2.toList) = false := by rw [str_same]; exact decide_eq_false hd
    clear hd 
    go_enter Try.func10, Try.ntmps10
    go_wp2_with fail
    go_ret
    exact ⟨false, rfl, ⟨(fun h => by cases h), fun h => absurd h HN.out⟩, HB.out⟩
  subst hd
  by_cases hd : f1 = f2
  rotate_left
  · have HN : Hid ((⟨t1, a1, b1, ⟨k1, y1, g1⟩, ⟨tb1, tg1, ts1, tx1⟩, l1, s1, f1, c1, r1, n1⟩ : Rq) ≠ (⟨t1, a1, b1, ⟨k1, y1, g1⟩, ⟨tb1, tg1, ts1, tx1⟩, l2, s1, f2, c2, r2, n2⟩ : Rq)) := Lib.hid (fun e => hd (congrArg Rq.first e))
    cases f1 <;> cases f2
    · exact absurd rfl hd
    · clear hd
      go_enter Try.func10, Try.ntmps10
      go_wp2_with fail
      go_ret
      exact ⟨false, rfl, ⟨(fun h => by cases h), fun h => absurd h HN.out⟩, HB.out⟩
    · clear hd
      go_enter Try.func10, Try.ntmps10
      go_wp2_with fail
      go_ret
      exact ⟨false, rfl, ⟨(fun h => by cases h), fun h => absurd h HN.out⟩, HB.out⟩
    · exact absurd rfl hd
  subst hd
  by_cases hd : c1 = c2
  rotate_left
  · have HN : Hid ((⟨t1, a1, b1, ⟨k1, y1, g1⟩, ⟨tb1, tg1, ts1, tx1⟩, l1, s1, f1, c1, r1, n1⟩ : Rq) ≠ (⟨t1, a1, b1, ⟨k1, y1, g1⟩, ⟨tb1, tg1, ts1, tx1⟩, l2, s1, f1, c2, r2, n2⟩ : Rq)) := Lib.hid (fun e => hd (congrArg Rq.count e))
    have h0 : (c1 != c2) = true := bne_iff_ne.2 (by omega)
    clear hd 
    go_enter Try.func10, Try.ntmps10
    go_wp2_with fail
    go_ret
    exact ⟨false, rfl, ⟨(fun h => by cases h), fun h => absurd h HN.out⟩, HB.out⟩
  subst hd
  by_cases hd : r1 = r2
  rotate_left
  · have HN : Hid ((⟨t1, a1, b1, ⟨k1, y1, g1⟩, ⟨tb1, tg1, ts1, tx1⟩, l1, s1, f1, c1, r1, n1⟩ : Rq) ≠ (⟨t1, a1, b1, ⟨k1, y1, g1⟩, ⟨tb1, tg1, ts1, tx1⟩, l2, s1, f1, c1, r2, n2⟩ : Rq)) := Lib.hid (fun e => hd (congrArg Rq.rights e))
    have h0 : (r1 != r2) = true := bne_iff_ne.2 (by omega)
    clear hd 
    go_enter Try.func10, Try.ntmps10
    go_wp2_with fail
    go_ret
    exact ⟨false, rfl, ⟨(fun h => by cases h), fun h => absurd h HN.out⟩, HB.out⟩
  subst hd
  by_cases hd : n1 = n2
  rotate_left
  · have HN : Hid ((⟨t1, a1, b1, ⟨k1, y1, g1⟩, ⟨tb1, tg1, ts1, tx1⟩, l1, s1, f1, c1, r1, n1⟩ : Rq) ≠ (⟨t1, a1, b1, ⟨k1, y1, g1⟩, ⟨tb1, tg1, ts1, tx1⟩, l2, s1, f1, c1, r1, n2⟩ : Rq)) := Lib.hid (fun e => hd (congrArg Rq.serial e))
    have h0 : ((n1 : Int) != (n2 : Int)) = true := bne_iff_ne.2 (by omega)
    clear hd 
    go_enter Try.func10, Try.ntmps10
    go_wp2_with fail
    go_ret
    exact ⟨false, rfl, ⟨(fun h => by cases h), fun h => absurd h HN.out⟩, HB.out⟩
  subst hd
  have HM := Lib.hid (And.intro (rfl : l1.length = l1.length) HLEN.out)
  have hms : l1.length ≤ 1000000 := HS.out.2.2.1
  go_enter Try.func10, Try.ntmps10
  go_wp2_with fail
  have x10 : ((w.alloc (.cells _ 39)).alloc (.cells _ 39)).cell? ⟨w.heap.size, 10, none⟩ = some (.slice xa l1.length xc) := (HBX.out.1.cell 10).trans rfl
  have x10' : ((w.alloc (.cells _ 39)).alloc (.cells _ 39)).cell? ⟨w.heap.size + 1, 10, none⟩ = some (.slice ya l2.length yc) := (HBX.out.2.cell 10).trans rfl
  have HX10 := Lib.hid (And.intro x10 x10')
  clear x10 x10' hlen hqe hql hte htl
  go_loopw [5] (fun i wr => ∃ k : Nat, k ≤ l1.length ∧ i = .int .i64 (k : Int) ∧ l1.take k = l2.take k ∧ But (fun _ => False) ((w.alloc (.cells _ 39)).alloc (.cells _ 39)) wr) (fun i _ => l1.length - (intOf i).toNat)
  case atStart => exact ⟨0, Nat.zero_le _, rfl, rfl, But.refl _ _⟩
  case round =>
    obtain ⟨k, hk, rfl, hT, hbr⟩ := hrel
    have x10 := (hbr.cell (p := ⟨w.heap.size, 10, none⟩) (by first | (simp; done) | (simp; omega)) (fun e => e)).trans HX10.out.1
    have x10' := (hbr.cell (p := ⟨w.heap.size + 1, 10, none⟩) (by first | (simp; done) | (simp; omega)) (fun e => e)).trans HX10.out.2
    have HBR := Lib.hid (HB.out.trans hbr (fun _ _ e => e))
    by_cases hlt : k < l1.length
    · have hk1 : k < l1.length := by have := HM.out; omega
      have hk2 : k < l2.length := by have := HM.out; omega
      obtain ⟨_, _, he1, hx1⟩ := (HS.out.1).fresh HBR.out
      obtain ⟨_, _, he2, hx2⟩ := (HS.out.2.1).fresh HBR.out
      injection he1 with he1 he1a he1b
      injection he2 with he2 he2a he2b
      subst he1 he2
      clear he1a he1b he2a he2b
      obtain ⟨b, off, rfl, hblt, hc⟩ := hx1 (by omega)
      obtain ⟨b', off', rfl, hblt', hc'⟩ := hx2 (by have := HM.out; omega)
      obtain ⟨o, ho⟩ : ∃ o, o = l1[k] := ⟨_, rfl⟩
      obtain ⟨o', ho'⟩ : ∃ o, o = l2[k] := ⟨_, rfl⟩
      obtain ⟨e0, e1, e2, e3, e4⟩ := OpsAt.cells hc hk1 ho
      obtain ⟨f0, f1, f2, f3, f4⟩ := OpsAt.cells hc' hk2 ho'
      have hne := fun w => rop_neq o o' w
      have heq := fun w => rop_equal o o' w
      have hiff := opEq_iff o o'
      obtain ⟨z, hz⟩ : ∃ z, z = opEq o o' := ⟨_, rfl⟩
      rw [← hz] at hne heq hiff
      unfold ov at hne heq
      have hno : z = false → l1 ≠ l2 := fun e h => by
        have : o = o' := by rw [ho, ho']; subst h; rfl
        rw [hiff.2 this] at e
        cases e
      have hyes : z = true → l1.take (k + 1) = l2.take (k + 1) := fun e => take_ext hk1 hk2 hT (by rw [← ho, ← ho']; exact hiff.1 e)
      have HNO := Lib.hid hno
      have HYES := Lib.hid hyes
      have HBB := Lib.hid hbr
      clear hc hc' hx1 hx2 hbr ho ho' hiff hz hno hyes hT
      cases z
      · simp only [Bool.not_false] at hne heq
        go_wp2
        go_quiet (fail)
        go_wp2
        go_ret
        exact ⟨false, rfl, ⟨(fun h => by cases h), fun h => absurd (congrArg Rq.ops h) (HNO.out (by trivial))⟩, HBR.out.drewN _⟩
      · simp only [Bool.not_true] at hne heq
        go_wp2
        go_quiet (fail)
        go_wp2
        go_roundw
        case rel => exact ⟨k + 1, by omega, by go_num, HYES.out (by trivial), HBB.out.drewN _⟩
        case measure => simp [intOf]; omega
    · have hkl : k = l1.length := by omega
      subst hkl
      have hall : l1 = l2 := by
        rw [← List.take_of_length_le (show l1.length ≤ l1.length by omega), ← List.take_of_length_le (show l2.length ≤ l1.length by have := HM.out; omega), hT]
      have HA := Lib.hid hall
      clear hT hall hbr
      go_wp2
      go_ret
      exact ⟨true, rfl, ⟨fun _ => by rw [HA.out], fun _ => rfl⟩, HBR.out⟩
end Go.Proofs.Ytbdbbnpkekcefaa.Cmd

/- Whether two requests are the same, as the program says. -/
import Derived.Test.YtbdbbnpkekcefaaCmdEq
import Derived.Test.YtbdbbnpkekcefaaCmdParts
namespace Go.Proofs.Ytbdbbnpkekcefaa.Cmd
open Go.Proofs.Ytbdbbnpkekcefaa.Mem Go.Proofs.Ytbdbbnpkekcefaa.Pack
open Go.ChangeShapes Go.WideShapes Go.ChangeAt Go.RowKit
set_option linter.unusedVariables false
set_option linter.unusedSimpArgs false

theorem OpsAt.fresh {w w' : World} {sv : Value} {l : List Op} (h : OpsAt w sv l) (hb : But (fun _ => False) w w') : OpsAt w' sv l := h.below hb.new
def SameIs (p q : Rq) (w : World) (e : Ending) (w' : World) : Prop := ∃ r : Bool, e = .returned (.bool r) ∧ (r = true ↔ p = q) ∧ But (fun _ => False) w w'
set_option maxRecDepth 100000 in
set_option maxHeartbeats 8000000 in
theorem isSame_any (p q : Rq) (sv1 sv2 : Value) (w : World) (h1 : OpsAt w sv1 p.ops) (h2 : OpsAt w sv2 q.ops) (hs1 : p.ops.length ≤ 1000000) (hs2 : q.ops.length ≤ 1000000) :
    Calls Try.prog 31 #[rv p sv1, rv q sv2] w fun e w' => SameIs p q w e w' := by
  obtain ⟨t1, a1, b1, ⟨k1, y1, g1⟩, ⟨tb1, tg1, ts1, tx1⟩, l1, s1, f1, c1, r1, n1⟩ := p
  obtain ⟨t2, a2, b2, ⟨k2, y2, g2⟩, ⟨tb2, tg2, ts2, tx2⟩, l2, s2, f2, c2, r2, n2⟩ := q
  have h1 : OpsAt w sv1 l1 := h1
  have h2 : OpsAt w sv2 l2 := h2
  have hs1 : l1.length ≤ 1000000 := hs1
  have hs2 : l2.length ≤ 1000000 := hs2
  simp only [rv, rcells]
  have hb0 : But (fun _ => False) w ((w.alloc (.cells #[.int .i64 t1, .int .u64 (a1 : Int), .int .i64 b1, .int .i64 k1, .int .i64 y1, .int .i64 g1, .int .i64 tb1, .int .u32 (tg1 : Int), .int .u32 (ts1 : Int), .int .u64 (tx1 : Int), sv1, .string s1, .bool f1, .int .i64 c1, .int .i64 r1, .int .u32 (n1 : Int)] 32)).alloc (.cells #[.int .i64 t2, .int .u64 (a2 : Int), .int .i64 b2, .int .i64 k2, .int .i64 y2, .int .i64 g2, .int .i64 tb2, .int .u32 (tg2 : Int), .int .u32 (ts2 : Int), .int .u64 (tx2 : Int), sv2, .string s2, .bool f2, .int .i64 c2, .int .i64 r2, .int .u32 (n2 : Int)] 32)) := ((But.refl _ w).alloc _).alloc _
  have HB := Lib.hid hb0
  have ho := opsEq_any sv1 sv2 l1 l2 _ (h1.fresh hb0) (h2.fresh hb0) hs1 hs2
  have HO := Lib.hid ho
  clear ho
  have hbx := Blk.two w #[.int .i64 t1, .int .u64 (a1 : Int), .int .i64 b1, .int .i64 k1, .int .i64 y1, .int .i64 g1, .int .i64 tb1, .int .u32 (tg1 : Int), .int .u32 (ts1 : Int), .int .u64 (tx1 : Int), sv1, .string s1, .bool f1, .int .i64 c1, .int .i64 r1, .int .u32 (n1 : Int)] #[.int .i64 t2, .int .u64 (a2 : Int), .int .i64 b2, .int .i64 k2, .int .i64 y2, .int .i64 g2, .int .i64 tb2, .int .u32 (tg2 : Int), .int .u32 (ts2 : Int), .int .u64 (tx2 : Int), sv2, .string s2, .bool f2, .int .i64 c2, .int .i64 r2, .int .u32 (n2 : Int)] 32 32
  have HBX := Lib.hid hbx
  have HS := Lib.hid (And.intro h1 (And.intro h2 (And.intro hs1 hs2)))
  clear hbx hb0 h1 h2 hs1 hs2
  by_cases hd : t1 = t2
  rotate_left
  · have HN : Hid ((⟨t1, a1, b1, ⟨k1, y1, g1⟩, ⟨tb1, tg1, ts1, tx1⟩, l1, s1, f1, c1, r1, n1⟩ : Rq) ≠ (⟨t2, a2, b2, ⟨k2, y2, g2⟩, ⟨tb2, tg2, ts2, tx2⟩, l2, s2, f2, c2, r2, n2⟩ : Rq)) := Lib.hid (fun e => hd (congrArg Rq.tag e))
    have h0 : (t1 == t2) = false := beq_eq_false_iff_ne.2 (by omega)
    clear hd 
    go_enter Try.func31, Try.ntmps31
    go_wp2_with fail
    go_ret
    exact ⟨false, rfl, ⟨(fun h => by cases h), fun h => absurd h HN.out⟩, HB.out⟩
  subst hd
  by_cases hd : a1 = a2
  rotate_left
  · have HN : Hid ((⟨t1, a1, b1, ⟨k1, y1, g1⟩, ⟨tb1, tg1, ts1, tx1⟩, l1, s1, f1, c1, r1, n1⟩ : Rq) ≠ (⟨t1, a2, b2, ⟨k2, y2, g2⟩, ⟨tb2, tg2, ts2, tx2⟩, l2, s2, f2, c2, r2, n2⟩ : Rq)) := Lib.hid (fun e => hd (congrArg Rq.admin e))
    have h0 : ((a1 : Int) == (a2 : Int)) = false := beq_eq_false_iff_ne.2 (by omega)
    clear hd 
    go_enter Try.func31, Try.ntmps31
    go_wp2_with fail
    go_ret
    exact ⟨false, rfl, ⟨(fun h => by cases h), fun h => absurd h HN.out⟩, HB.out⟩
  subst hd
  by_cases hd : b1 = b2
  rotate_left
  · have HN : Hid ((⟨t1, a1, b1, ⟨k1, y1, g1⟩, ⟨tb1, tg1, ts1, tx1⟩, l1, s1, f1, c1, r1, n1⟩ : Rq) ≠ (⟨t1, a1, b2, ⟨k2, y2, g2⟩, ⟨tb2, tg2, ts2, tx2⟩, l2, s2, f2, c2, r2, n2⟩ : Rq)) := Lib.hid (fun e => hd (congrArg Rq.bucket e))
    have h0 : (b1 == b2) = false := beq_eq_false_iff_ne.2 (by omega)
    clear hd 
    go_enter Try.func31, Try.ntmps31
    go_wp2_with fail
    go_ret
    exact ⟨false, rfl, ⟨(fun h => by cases h), fun h => absurd h HN.out⟩, HB.out⟩
  subst hd
  have hqe := fun w => quo_equal ⟨k1, y1, g1⟩ ⟨k2, y2, g2⟩ w
  have hql := fun w => quo_eql ⟨k1, y1, g1⟩ ⟨k2, y2, g2⟩ w
  have hqi := quoEq_iff ⟨k1, y1, g1⟩ ⟨k2, y2, g2⟩
  obtain ⟨z, hz⟩ : ∃ z, z = quoEq ⟨k1, y1, g1⟩ ⟨k2, y2, g2⟩ := ⟨_, rfl⟩
  rw [← hz] at hqe hql hqi
  simp only [qv] at hqe hql
  clear hz
  by_cases hd : (⟨k1, y1, g1⟩ : Quo) = ⟨k2, y2, g2⟩
  rotate_left
  · have HN : Hid ((⟨t1, a1, b1, ⟨k1, y1, g1⟩, ⟨tb1, tg1, ts1, tx1⟩, l1, s1, f1, c1, r1, n1⟩ : Rq) ≠ (⟨t1, a1, b1, ⟨k2, y2, g2⟩, ⟨tb2, tg2, ts2, tx2⟩, l2, s2, f2, c2, r2, n2⟩ : Rq)) := Lib.hid (fun e => hd (congrArg Rq.quo e))
    have hzf : z = false := by cases z; rfl; exact absurd (hqi.1 rfl) hd
    subst hzf
    try simp only [Bool.not_false] at hql
    clear hd hqi
    go_enter Try.func31, Try.ntmps31
    go_wp2_with fail
    go_ret
    exact ⟨false, rfl, ⟨(fun h => by cases h), fun h => absurd h HN.out⟩, HB.out⟩
  have hzt : z = true := hqi.2 hd
  subst hzt
  injection hd with hd1 hd2 hd3
  subst hd1 hd2 hd3
  try simp only [Bool.not_true] at hql
  clear hqi
  have hte := fun w => tok_equal ⟨tb1, tg1, ts1, tx1⟩ ⟨tb2, tg2, ts2, tx2⟩ w
  have htl := fun w => tok_eql ⟨tb1, tg1, ts1, tx1⟩ ⟨tb2, tg2, ts2, tx2⟩ w
  have hti := tokEq_iff ⟨tb1, tg1, ts1, tx1⟩ ⟨tb2, tg2, ts2, tx2⟩
  obtain ⟨z, hz⟩ : ∃ z, z = tokEq ⟨tb1, tg1, ts1, tx1⟩ ⟨tb2, tg2, ts2, tx2⟩ := ⟨_, rfl⟩
  rw [← hz] at hte htl hti
  simp only [tv] at hte htl
  clear hz
  by_cases hd : (⟨tb1, tg1, ts1, tx1⟩ : Tok) = ⟨tb2, tg2, ts2, tx2⟩
  rotate_left
  · have HN : Hid ((⟨t1, a1, b1, ⟨k1, y1, g1⟩, ⟨tb1, tg1, ts1, tx1⟩, l1, s1, f1, c1, r1, n1⟩ : Rq) ≠ (⟨t1, a1, b1, ⟨k1, y1, g1⟩, ⟨tb2, tg2, ts2, tx2⟩, l2, s2, f2, c2, r2, n2⟩ : Rq)) := Lib.hid (fun e => hd (congrArg Rq.tok e))
    have hzf : z = false := by cases z; rfl; exact absurd (hti.1 rfl) hd
    subst hzf
    try simp only [Bool.not_false] at htl
    clear hd hti
    go_enter Try.func31, Try.ntmps31
    go_wp2_with fail
    go_ret
    exact ⟨false, rfl, ⟨(fun h => by cases h), fun h => absurd h HN.out⟩, HB.out⟩
  have hzt : z = true := hti.2 hd
  subst hzt
  injection hd with hd1 hd2 hd3 hd4
  subst hd1 hd2 hd3 hd4
  try simp only [Bool.not_true] at htl
  clear hti
  go_enter Try.func31, Try.ntmps31
  go_wp2_with fail
  refine HO.out.mono ?_
  rintro e w2 ⟨z, rfl, hzi, hb2⟩
  have HB2 := Lib.hid (HB.out.trans hb2 (fun _ _ e => e))
  clear hqe hql hte htl
  have x11 : w2.cell? ⟨w.heap.size, 11, none⟩ = some (.string s1) := ((HBX.out.1.but hb2 (fun e => e)).cell 11).trans rfl
  have u11 : w2.cell? ⟨w.heap.size + 1, 11, none⟩ = some (.string s2) := ((HBX.out.2.but hb2 (fun e => e)).cell 11).trans rfl
  have x12 : w2.cell? ⟨w.heap.size, 12, none⟩ = some (.bool f1) := ((HBX.out.1.but hb2 (fun e => e)).cell 12).trans rfl
  have u12 : w2.cell? ⟨w.heap.size + 1, 12, none⟩ = some (.bool f2) := ((HBX.out.2.but hb2 (fun e => e)).cell 12).trans rfl
  have x13 : w2.cell? ⟨w.heap.size, 13, none⟩ = some (.int .i64 c1) := ((HBX.out.1.but hb2 (fun e => e)).cell 13).trans rfl
  have u13 : w2.cell? ⟨w.heap.size + 1, 13, none⟩ = some (.int .i64 c2) := ((HBX.out.2.but hb2 (fun e => e)).cell 13).trans rfl
  have x14 : w2.cell? ⟨w.heap.size, 14, none⟩ = some (.int .i64 r1) := ((HBX.out.1.but hb2 (fun e => e)).cell 14).trans rfl
  have u14 : w2.cell? ⟨w.heap.size + 1, 14, none⟩ = some (.int .i64 r2) := ((HBX.out.2.but hb2 (fun e => e)).cell 14).trans rfl
  have x15 : w2.cell? ⟨w.heap.size, 15, none⟩ = some (.int .u32 (n1 : Int)) := ((HBX.out.1.but hb2 (fun e => e)).cell 15).trans rfl
  have u15 : w2.cell? ⟨w.heap.size + 1, 15, none⟩ = some (.int .u32 (n2 : Int)) := ((HBX.out.2.but hb2 (fun e => e)).cell 15).trans rfl
  clear hb2 HO HS HBX HB
  by_cases hd : l1 = l2
  rotate_left
  · have HN : Hid ((⟨t1, a1, b1, ⟨k1, y1, g1⟩, ⟨tb1, tg1, ts1, tx1⟩, l1, s1, f1, c1, r1, n1⟩ : Rq) ≠ (⟨t1, a1, b1, ⟨k1, y1, g1⟩, ⟨tb1, tg1, ts1, tx1⟩, l2, s2, f2, c2, r2, n2⟩ : Rq)) := Lib.hid (fun e => hd (congrArg Rq.ops e))
    have hzf : z = false := by cases z; rfl; exact absurd (hzi.1 rfl) hd
    subst hzf
    clear hd hzi
    go_wp2_with fail
    go_ret
    exact ⟨false, rfl, ⟨(fun h => by cases h), fun h => absurd h HN.out⟩, HB2.out⟩
  have hzt : z = true := hzi.2 hd
  subst hzt
  subst hd
  clear hzi
  by_cases hd : s1 = s2
  rotate_left
  · have HN : Hid ((⟨t1, a1, b1, ⟨k1, y1, g1⟩, ⟨tb1, tg1, ts1, tx1⟩, l1, s1, f1, c1, r1, n1⟩ : Rq) ≠ (⟨t1, a1, b1, ⟨k1, y1, g1⟩, ⟨tb1, tg1, ts1, tx1⟩, l1, s2, f2, c2, r2, n2⟩ : Rq)) := Lib.hid (fun e => hd (congrArg Rq.after e))
    have h0 : (s1.toList == s2.toList) = false := by rw [str_same]; exact decide_eq_false hd
    clear hd 
    go_wp2_with fail
    go_ret
    exact ⟨false, rfl, ⟨(fun h => by cases h), fun h => absurd h HN.out⟩, HB2.out⟩
  subst hd
  by_cases hd : f1 = f2
  rotate_left
  · have HN : Hid ((⟨t1, a1, b1, ⟨k1, y1, g1⟩, ⟨tb1, tg1, ts1, tx1⟩, l1, s1, f1, c1, r1, n1⟩ : Rq) ≠ (⟨t1, a1, b1, ⟨k1, y1, g1⟩, ⟨tb1, tg1, ts1, tx1⟩, l1, s1, f2, c2, r2, n2⟩ : Rq)) := Lib.hid (fun e => hd (congrArg Rq.first e))
    have h0 : (f1 == f2) = false := by cases f1 <;> cases f2 <;> first | rfl | exact absurd rfl hd
    clear hd 
    go_wp2_with fail
    go_ret
    exact ⟨false, rfl, ⟨(fun h => by cases h), fun h => absurd h HN.out⟩, HB2.out⟩
  subst hd
  by_cases hd : c1 = c2
  rotate_left
  · have HN : Hid ((⟨t1, a1, b1, ⟨k1, y1, g1⟩, ⟨tb1, tg1, ts1, tx1⟩, l1, s1, f1, c1, r1, n1⟩ : Rq) ≠ (⟨t1, a1, b1, ⟨k1, y1, g1⟩, ⟨tb1, tg1, ts1, tx1⟩, l1, s1, f1, c2, r2, n2⟩ : Rq)) := Lib.hid (fun e => hd (congrArg Rq.count e))
    have h0 : (c1 == c2) = false := beq_eq_false_iff_ne.2 (by omega)
    clear hd 
    go_wp2_with fail
    go_ret
    exact ⟨false, rfl, ⟨(fun h => by cases h), fun h => absurd h HN.out⟩, HB2.out⟩
  subst hd
  by_cases hd : r1 = r2
  rotate_left
  · have HN : Hid ((⟨t1, a1, b1, ⟨k1, y1, g1⟩, ⟨tb1, tg1, ts1, tx1⟩, l1, s1, f1, c1, r1, n1⟩ : Rq) ≠ (⟨t1, a1, b1, ⟨k1, y1, g1⟩, ⟨tb1, tg1, ts1, tx1⟩, l1, s1, f1, c1, r2, n2⟩ : Rq)) := Lib.hid (fun e => hd (congrArg Rq.rights e))
    have h0 : (r1 == r2) = false := beq_eq_false_iff_ne.2 (by omega)
    clear hd 
    go_wp2_with fail
    go_ret
    exact ⟨false, rfl, ⟨(fun h => by cases h), fun h => absurd h HN.out⟩, HB2.out⟩
  subst hd
  by_cases hd : n1 = n2
  rotate_left
  · have HN : Hid ((⟨t1, a1, b1, ⟨k1, y1, g1⟩, ⟨tb1, tg1, ts1, tx1⟩, l1, s1, f1, c1, r1, n1⟩ : Rq) ≠ (⟨t1, a1, b1, ⟨k1, y1, g1⟩, ⟨tb1, tg1, ts1, tx1⟩, l1, s1, f1, c1, r1, n2⟩ : Rq)) := Lib.hid (fun e => hd (congrArg Rq.serial e))
    have h0 : ((n1 : Int) == (n2 : Int)) = false := beq_eq_false_iff_ne.2 (by omega)
    clear hd 
    go_wp2_with fail
    go_ret
    exact ⟨false, rfl, ⟨(fun h => by cases h), fun h => absurd h HN.out⟩, HB2.out⟩
  subst hd
  go_wp2_with fail
  go_ret
  exact ⟨true, rfl, ⟨fun _ => rfl, fun _ => rfl⟩, HB2.out⟩
end Go.Proofs.Ytbdbbnpkekcefaa.Cmd

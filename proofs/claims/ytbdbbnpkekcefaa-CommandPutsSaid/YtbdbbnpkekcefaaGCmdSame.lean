/- In one text: Whether two ops, tokens, quotas are the same; whether two slices of ops are. Whether two requests are the same, as the program says. -/
import Derived.Test.YtbdbbnpkekcefaaCmdMem
import Derived.Laws.StructEq
import Derived.Test.YtbdbbnpkekcefaaGCmdPut
namespace Go.Proofs.Ytbdbbnpkekcefaa.Cmd
open Go.Proofs.Ytbdbbnpkekcefaa.Mem Go.Proofs.Ytbdbbnpkekcefaa.Pack
open Go.ChangeShapes Go.WideShapes Go.ChangeAt Go.RowKit
set_option linter.unusedVariables false
set_option linter.unusedSimpArgs false

section
variable {P : Program} {d : Nat} {xs ys : Array Value} {f : Field} {fs : List Field} {w : World}
theorem eq_end : (Go.Op.eqFields d xs ys []).run P w = .ok true w := by simp [Go.Op.eqFields]
theorem eq_field {u v : Value} {c r : Bool} (hn : f.name ≠ "_") (h1 : (Go.part f.type xs f.offset).run P w = .ok u w) (h2 : (Go.part f.type ys f.offset).run P w = .ok v w) (h3 : (Go.Op.equalIn d f.type u v).run P w = .ok c w) (h4 : (Go.Op.eqFields d xs ys fs).run P w = .ok r w) :
    (Go.Op.eqFields d xs ys (f :: fs)).run P w = .ok (c && r) w := by
  rw [Go.Op.eqFields, if_pos hn]
  simp only [Sem.run_bind, h1, h2, h3, Result.andThen_ok, Sem.run_ite]
  cases c
  · simp
  · simpa using h4
theorem part_one {t : TypeId} {cs : Array Value} {off : Nat} {u : Value} (ha : (isAgg t).run P w = .ok false w) (h : cs[off]? = some u) : (Go.part t cs off).run P w = .ok u w := by
  unfold Go.part
  simp [ha, h]
end
theorem agg_no (w : World) : (isAgg 3).run Try.prog w = .ok false w ∧ (isAgg 2).run Try.prog w = .ok false w ∧ (isAgg 27).run Try.prog w = .ok false w ∧ (isAgg 24).run Try.prog w = .ok false w ∧ (isAgg 9).run Try.prog w = .ok false w ∧ (isAgg 4).run Try.prog w = .ok false w := by
  refine ⟨?_, ?_, ?_, ?_, ?_, ?_⟩
  · simp [isAgg, run_underlying Try.underlying3]
  · simp [isAgg, run_underlying Try.underlying2]
  · simp [isAgg, run_underlying Try.underlying27]
  · simp [isAgg, run_underlying Try.underlying24]
  · simp [isAgg, run_underlying Try.underlying9]
  · simp [isAgg, run_underlying Try.underlying4]
theorem str_same (a b : ByteArray) : (a.toList == b.toList) = decide (a = b) := by
  rw [ByteArray.toList_eq, ByteArray.toList_eq, Bool.eq_iff_iff]
  obtain ⟨⟨x⟩⟩ := a
  obtain ⟨⟨y⟩⟩ := b
  simp
def opEq (a b : Op) : Bool := (a.del == b.del) && ((a.key.toList == b.key.toList) && ((a.val.toList == b.val.toList) && (((a.cond : Int) == (b.cond : Int)) && (((a.ttl : Int) == (b.ttl : Int)) && true))))
theorem opEq_iff (a b : Op) : opEq a b = true ↔ a = b := by
  obtain ⟨⟩ := a
  obtain ⟨⟩ := b
  unfold opEq
  rw [str_same, str_same]
  simp [Int.natCast_inj, and_assoc]
def quoEq (a b : Quo) : Bool := (a.k == b.k) && ((a.b == b.b) && ((a.g == b.g) && true))
theorem quoEq_iff (a b : Quo) : quoEq a b = true ↔ a = b := by
  obtain ⟨⟩ := a
  obtain ⟨⟩ := b
  unfold quoEq
  simp [and_assoc]
def tokEq (a b : Tok) : Bool := (a.b == b.b) && (((a.g : Int) == (b.g : Int)) && (((a.s : Int) == (b.s : Int)) && (((a.x : Int) == (b.x : Int)) && true)))
theorem tokEq_iff (a b : Tok) : tokEq a b = true ↔ a = b := by
  obtain ⟨⟩ := a
  obtain ⟨⟩ := b
  unfold tokEq
  simp [Int.natCast_inj, and_assoc]
theorem op_equal (a b : Op) (w : World) : (Go.Op.equal 87 (ov a) (ov b)).run Try.prog w = .ok (opEq a b) w := by
  have h1 : Try.prog.stoodInHeld 87 = false := by kernel_rfl
  obtain ⟨ki, kl, ku, kw, ks, kb⟩ := agg_no w
  unfold Go.Op.equal ov
  rw [show Go.Op.maxDepth = 9997 + 1 + 1 + 1 from rfl, run_equalIn_struct _ _ _ _ _ (by kernel_rfl) h1]
  obtain ⟨fs, hfs⟩ : ∃ fs, (Try.prog.fieldsOf 87).toList = fs := ⟨_, rfl⟩
  rw [hfs]
  simp [Program.fieldsOf, Try.underlying87] at hfs
  subst hfs
  unfold opEq
  refine eq_field (by decide) (part_one kb rfl) (part_one kb rfl) (run_equalIn_bool' _ _ _ _ _ Try.underlying4) ?_
  refine eq_field (by decide) (part_one ks rfl) (part_one ks rfl) (run_equalIn_string _ _ _ _ _ Try.underlying9) ?_
  refine eq_field (by decide) (part_one ks rfl) (part_one ks rfl) (run_equalIn_string _ _ _ _ _ Try.underlying9) ?_
  refine eq_field (by decide) (part_one kw rfl) (part_one kw rfl) (run_equalIn_int _ _ _ _ _ _ _ Try.underlying24) ?_
  exact eq_field (by decide) (part_one kw rfl) (part_one kw rfl) (run_equalIn_int _ _ _ _ _ _ _ Try.underlying24) eq_end
theorem op_eql (a b : Op) (w : World) : (binOp .eql 87 (ov a) (ov b)).run Try.prog w = .ok (.bool (opEq a b)) w := by
  have h := op_equal a b w
  unfold ov at h ⊢
  simp [binOp, h]
theorem op_neq (a b : Op) (w : World) : (binOp .neq 87 (ov a) (ov b)).run Try.prog w = .ok (.bool (!opEq a b)) w := by
  have h := op_equal a b w
  unfold ov at h ⊢
  simp [binOp, h]
theorem rop_equal (a b : Op) (w : World) : (Go.Op.equal 83 (ov a) (ov b)).run Try.prog w = .ok (opEq a b) w := by
  have h1 : Try.prog.stoodInHeld 83 = false := by kernel_rfl
  obtain ⟨ki, kl, ku, kw, ks, kb⟩ := agg_no w
  unfold Go.Op.equal ov
  rw [show Go.Op.maxDepth = 9997 + 1 + 1 + 1 from rfl, run_equalIn_struct _ _ _ _ _ (by kernel_rfl) h1]
  obtain ⟨fs, hfs⟩ : ∃ fs, (Try.prog.fieldsOf 83).toList = fs := ⟨_, rfl⟩
  rw [hfs]
  simp [Program.fieldsOf, Try.underlying83] at hfs
  subst hfs
  unfold opEq
  refine eq_field (by decide) (part_one kb rfl) (part_one kb rfl) (run_equalIn_bool' _ _ _ _ _ Try.underlying4) ?_
  refine eq_field (by decide) (part_one ks rfl) (part_one ks rfl) (run_equalIn_string _ _ _ _ _ Try.underlying9) ?_
  refine eq_field (by decide) (part_one ks rfl) (part_one ks rfl) (run_equalIn_string _ _ _ _ _ Try.underlying9) ?_
  refine eq_field (by decide) (part_one kw rfl) (part_one kw rfl) (run_equalIn_int _ _ _ _ _ _ _ Try.underlying24) ?_
  exact eq_field (by decide) (part_one kw rfl) (part_one kw rfl) (run_equalIn_int _ _ _ _ _ _ _ Try.underlying24) eq_end
theorem rop_eql (a b : Op) (w : World) : (binOp .eql 83 (ov a) (ov b)).run Try.prog w = .ok (.bool (opEq a b)) w := by
  have h := rop_equal a b w
  unfold ov at h ⊢
  simp [binOp, h]
theorem rop_neq (a b : Op) (w : World) : (binOp .neq 83 (ov a) (ov b)).run Try.prog w = .ok (.bool (!opEq a b)) w := by
  have h := rop_equal a b w
  unfold ov at h ⊢
  simp [binOp, h]
theorem quo_equal (a b : Quo) (w : World) : (Go.Op.equal 26 (qv a) (qv b)).run Try.prog w = .ok (quoEq a b) w := by
  have h1 : Try.prog.stoodInHeld 26 = false := by kernel_rfl
  obtain ⟨ki, kl, ku, kw, ks, kb⟩ := agg_no w
  unfold Go.Op.equal qv
  rw [show Go.Op.maxDepth = 9997 + 1 + 1 + 1 from rfl, run_equalIn_struct _ _ _ _ _ (by kernel_rfl) h1]
  obtain ⟨fs, hfs⟩ : ∃ fs, (Try.prog.fieldsOf 26).toList = fs := ⟨_, rfl⟩
  rw [hfs]
  simp [Program.fieldsOf, Try.underlying26] at hfs
  subst hfs
  unfold quoEq
  refine eq_field (by decide) (part_one kl rfl) (part_one kl rfl) (run_equalIn_int _ _ _ _ _ _ _ Try.underlying2) ?_
  refine eq_field (by decide) (part_one kl rfl) (part_one kl rfl) (run_equalIn_int _ _ _ _ _ _ _ Try.underlying2) ?_
  exact eq_field (by decide) (part_one kl rfl) (part_one kl rfl) (run_equalIn_int _ _ _ _ _ _ _ Try.underlying2) eq_end
theorem quo_eql (a b : Quo) (w : World) : (binOp .eql 26 (qv a) (qv b)).run Try.prog w = .ok (.bool (quoEq a b)) w := by
  have h := quo_equal a b w
  unfold qv at h ⊢
  simp [binOp, h]
theorem quo_neq (a b : Quo) (w : World) : (binOp .neq 26 (qv a) (qv b)).run Try.prog w = .ok (.bool (!quoEq a b)) w := by
  have h := quo_equal a b w
  unfold qv at h ⊢
  simp [binOp, h]
theorem tok_equal (a b : Tok) (w : World) : (Go.Op.equal 29 (tv a) (tv b)).run Try.prog w = .ok (tokEq a b) w := by
  have h1 : Try.prog.stoodInHeld 29 = false := by kernel_rfl
  obtain ⟨ki, kl, ku, kw, ks, kb⟩ := agg_no w
  unfold Go.Op.equal tv
  rw [show Go.Op.maxDepth = 9997 + 1 + 1 + 1 from rfl, run_equalIn_struct _ _ _ _ _ (by kernel_rfl) h1]
  obtain ⟨fs, hfs⟩ : ∃ fs, (Try.prog.fieldsOf 29).toList = fs := ⟨_, rfl⟩
  rw [hfs]
  simp [Program.fieldsOf, Try.underlying29] at hfs
  subst hfs
  unfold tokEq
  refine eq_field (by decide) (part_one ki rfl) (part_one ki rfl) (run_equalIn_int _ _ _ _ _ _ _ Try.underlying3) ?_
  refine eq_field (by decide) (part_one ku rfl) (part_one ku rfl) (run_equalIn_int _ _ _ _ _ _ _ Try.underlying27) ?_
  refine eq_field (by decide) (part_one ku rfl) (part_one ku rfl) (run_equalIn_int _ _ _ _ _ _ _ Try.underlying27) ?_
  exact eq_field (by decide) (part_one kw rfl) (part_one kw rfl) (run_equalIn_int _ _ _ _ _ _ _ Try.underlying24) eq_end
theorem tok_eql (a b : Tok) (w : World) : (binOp .eql 29 (tv a) (tv b)).run Try.prog w = .ok (.bool (tokEq a b)) w := by
  have h := tok_equal a b w
  unfold tv at h ⊢
  simp [binOp, h]
theorem tok_neq (a b : Tok) (w : World) : (binOp .neq 29 (tv a) (tv b)).run Try.prog w = .ok (.bool (!tokEq a b)) w := by
  have h := tok_equal a b w
  unfold tv at h ⊢
  simp [binOp, h]
theorem take_ext {l l' : List Op} {k : Nat} (hk : k < l.length) (hk' : k < l'.length) (h : l.take k = l'.take k) (he : l[k] = l'[k]) : l.take (k + 1) = l'.take (k + 1) := by
  rw [List.take_succ_eq_append_getElem hk, List.take_succ_eq_append_getElem hk', h, he]
set_option maxRecDepth 100000 in
set_option maxHeartbeats 4000000 in
theorem opsEq_any (sv sv' : Value) (l l' : List Op) (w : World) (h : OpsAt w sv l) (h' : OpsAt w sv' l') (hs : l.length ≤ 1000000) (hs' : l'.length ≤ 1000000) : Calls Try.prog 58 #[sv, sv'] w fun e w' => ∃ r : Bool, e = .returned (.bool r) ∧ (r = true ↔ l = l') ∧ But (fun _ => False) w w' := by
  obtain ⟨a, c, rfl, hx⟩ := h
  obtain ⟨a', c', rfl, hx'⟩ := h'
  have HX := Lib.hid hx
  have HX' := Lib.hid hx'
  clear hx hx'
  by_cases hl : l.length = l'.length
  rotate_left
  · have hb : ((l.length : Int) != (l'.length : Int)) = true := bne_iff_ne.2 (by omega)
    have hne : l ≠ l' := fun e => hl (by rw [e])
    have HN := Lib.hid hne
    clear hl hne
    go_enter Try.func58, Try.ntmps58
    go_wp2_with fail
    go_ret
    exact ⟨false, rfl, ⟨(fun h => by cases h), fun h => absurd h HN.out⟩, But.refl _ _⟩
  obtain ⟨m, hm⟩ : ∃ m, m = l'.length := ⟨_, rfl⟩
  rw [← hm] at hl ⊢
  rw [hl]
  have hms : m ≤ 1000000 := by omega
  have HM := Lib.hid (And.intro hl hm)
  clear hl hm hs hs'
  go_enter Try.func58, Try.ntmps58
  go_wp2_with fail
  go_loopw [5, 13] (fun u i wr => ∃ k : Nat, k ≤ m ∧ i = .int .i64 (k : Int) ∧ l.take k = l'.take k ∧ But (fun _ => False) w wr) (fun _ i _ => m - (intOf i).toNat)
  case atStart => exact ⟨0, Nat.zero_le _, rfl, rfl, But.refl _ _⟩
  case round =>
    obtain ⟨k, hk, rfl, hT, hbr⟩ := hrel
    by_cases hlt : k < m
    · obtain ⟨b, off, rfl, hblt, hc⟩ := HX.out (by have := HM.out; omega)
      obtain ⟨b', off', rfl, hblt', hc'⟩ := HX'.out (by have := HM.out; omega)
      have hk1 : k < l.length := by have := HM.out; omega
      have hk2 : k < l'.length := by have := HM.out; omega
      obtain ⟨o, ho⟩ : ∃ o, o = l[k] := ⟨_, rfl⟩
      obtain ⟨o', ho'⟩ : ∃ o, o = l'[k] := ⟨_, rfl⟩
      have hcr : ∀ i (h : i < l.length) j u, (ocells l[i])[j]? = some u → wr.cell? ⟨b, off + i * 5 + j, none⟩ = some u := fun i hi j u hu => (hbr.cell (p := ⟨b, off + i * 5 + j, none⟩) hblt (fun e => e)).trans (hc i hi j u hu)
      have hcr' : ∀ i (h : i < l'.length) j u, (ocells l'[i])[j]? = some u → wr.cell? ⟨b', off' + i * 5 + j, none⟩ = some u := fun i hi j u hu => (hbr.cell (p := ⟨b', off' + i * 5 + j, none⟩) hblt' (fun e => e)).trans (hc' i hi j u hu)
      obtain ⟨e0, e1, e2, e3, e4⟩ := OpsAt.cells hcr hk1 ho
      obtain ⟨f0, f1, f2, f3, f4⟩ := OpsAt.cells hcr' hk2 ho'
      have HBR := Lib.hid hbr
      have hne := fun w => op_neq o o' w
      have heq := fun w => op_equal o o' w
      have hiff := opEq_iff o o'
      obtain ⟨z, hz⟩ : ∃ z, z = opEq o o' := ⟨_, rfl⟩
      rw [← hz] at hne heq hiff
      unfold ov at hne heq
      have hno : z = false → l ≠ l' := fun e h => by
        have : o = o' := by rw [ho, ho']; subst h; rfl
        rw [hiff.2 this] at e
        cases e
      have hyes : z = true → l.take (k + 1) = l'.take (k + 1) := fun e => take_ext hk1 hk2 hT (by rw [← ho, ← ho']; exact hiff.1 e)
      have HNO := Lib.hid hno
      have HYES := Lib.hid hyes
      clear hc hc' hcr hcr' hbr ho ho' hiff hz hno hyes hT hk1 hk2
      cases z
      · simp only [Bool.not_false] at hne heq
        go_wp2
        go_quiet (fail)
        go_wp2
        go_ret
        exact ⟨false, rfl, ⟨(fun h => by cases h), fun h => absurd h (HNO.out (by trivial))⟩, HBR.out.drewN _⟩
      · simp only [Bool.not_true] at hne heq
        go_wp2
        go_quiet (fail)
        go_wp2
        go_roundw
        case rel => exact ⟨k + 1, by omega, by go_num, HYES.out (by trivial), HBR.out.drewN _⟩
        case measure => simp [intOf]; omega
    · have hkl : k = m := by omega
      subst hkl
      have hall : l = l' := by
        rw [← List.take_of_length_le (show l.length ≤ k by have := HM.out; omega), ← List.take_of_length_le (show l'.length ≤ k by have := HM.out; omega), hT]
      have HA := Lib.hid hall
      have HB := Lib.hid hbr
      clear hT hall hbr
      go_wp2
      go_ret
      exact ⟨true, rfl, ⟨fun _ => HA.out, fun _ => rfl⟩, HB.out⟩
end Go.Proofs.Ytbdbbnpkekcefaa.Cmd
namespace Go.Proofs.Ytbdbbnpkekcefaa.Cmd
open Go.Proofs.Ytbdbbnpkekcefaa.Mem Go.Proofs.Ytbdbbnpkekcefaa.Pack
open Go.ChangeShapes Go.WideShapes Go.ChangeAt Go.RowKit
set_option linter.unusedVariables false
set_option linter.unusedSimpArgs false

theorem OpsAt.fresh {w w' : World} {sv : Value} {l : List Op} (h : OpsAt w sv l) (hb : But (fun _ => False) w w') : OpsAt w' sv l := h.below hb.new
def SameIs (p q : Rq) (w : World) (e : Ending) (w' : World) : Prop := ∃ r : Bool, e = .returned (.bool r) ∧ (r = true ↔ p = q) ∧ But (fun _ => False) w w'
set_option maxRecDepth 100000 in
set_option maxHeartbeats 8000000 in
theorem isSame_any (p q : Rq) (sv1 sv2 : Value) (w : World) (h1 : OpsAt w sv1 p.ops) (h2 : OpsAt w sv2 q.ops) (hs1 : p.ops.length ≤ 1000000) (hs2 : q.ops.length ≤ 1000000) :
    Calls Try.prog 31 #[rv p sv1, rv q sv2] w fun e w' => SameIs p q w e w' := by
  obtain ⟨t1, a1, b1, ⟨k1, y1, g1⟩, ⟨tb1, tg1, ts1, tx1⟩, l1, s1, f1, c1, r1, n1⟩ := p
  obtain ⟨t2, a2, b2, ⟨k2, y2, g2⟩, ⟨tb2, tg2, ts2, tx2⟩, l2, s2, f2, c2, r2, n2⟩ := q
  have h1 : OpsAt w sv1 l1 := h1
  have h2 : OpsAt w sv2 l2 := h2
  have hs1 : l1.length ≤ 1000000 := hs1
  have hs2 : l2.length ≤ 1000000 := hs2
  simp only [rv, rcells]
  have hb0 : But (fun _ => False) w ((w.alloc (.cells #[.int .i64 t1, .int .u64 (a1 : Int), .int .i64 b1, .int .i64 k1, .int .i64 y1, .int .i64 g1, .int .i64 tb1, .int .u32 (tg1 : Int), .int .u32 (ts1 : Int), .int .u64 (tx1 : Int), sv1, .string s1, .bool f1, .int .i64 c1, .int .i64 r1, .int .u32 (n1 : Int)] 32)).alloc (.cells #[.int .i64 t2, .int .u64 (a2 : Int), .int .i64 b2, .int .i64 k2, .int .i64 y2, .int .i64 g2, .int .i64 tb2, .int .u32 (tg2 : Int), .int .u32 (ts2 : Int), .int .u64 (tx2 : Int), sv2, .string s2, .bool f2, .int .i64 c2, .int .i64 r2, .int .u32 (n2 : Int)] 32)) := ((But.refl _ w).alloc _).alloc _
  have HB := Lib.hid hb0
  have ho := opsEq_any sv1 sv2 l1 l2 _ (h1.fresh hb0) (h2.fresh hb0) hs1 hs2
  have HO := Lib.hid ho
  clear ho
  have hbx := Blk.two w #[.int .i64 t1, .int .u64 (a1 : Int), .int .i64 b1, .int .i64 k1, .int .i64 y1, .int .i64 g1, .int .i64 tb1, .int .u32 (tg1 : Int), .int .u32 (ts1 : Int), .int .u64 (tx1 : Int), sv1, .string s1, .bool f1, .int .i64 c1, .int .i64 r1, .int .u32 (n1 : Int)] #[.int .i64 t2, .int .u64 (a2 : Int), .int .i64 b2, .int .i64 k2, .int .i64 y2, .int .i64 g2, .int .i64 tb2, .int .u32 (tg2 : Int), .int .u32 (ts2 : Int), .int .u64 (tx2 : Int), sv2, .string s2, .bool f2, .int .i64 c2, .int .i64 r2, .int .u32 (n2 : Int)] 32 32
  have HBX := Lib.hid hbx
  have HS := Lib.hid (And.intro h1 (And.intro h2 (And.intro hs1 hs2)))
  clear hbx hb0 h1 h2 hs1 hs2
  by_cases hd : t1 = t2
  rotate_left
  · have HN : Hid ((⟨t1, a1, b1, ⟨k1, y1, g1⟩, ⟨tb1, tg1, ts1, tx1⟩, l1, s1, f1, c1, r1, n1⟩ : Rq) ≠ (⟨t2, a2, b2, ⟨k2, y2, g2⟩, ⟨tb2, tg2, ts2, tx2⟩, l2, s2, f2, c2, r2, n2⟩ : Rq)) := Lib.hid (fun e => hd (congrArg Rq.tag e))
    have h0 : (t1 == t2) = false := beq_eq_false_iff_ne.2 (by omega)
    clear hd 
    go_enter Try.func31, Try.ntmps31
    go_wp2_with fail
    go_ret
    exact ⟨false, rfl, ⟨(fun h => by cases h), fun h => absurd h HN.out⟩, HB.out⟩
  subst hd
  by_cases hd : a1 = a2
  rotate_left
  · have HN : Hid ((⟨t1, a1, b1, ⟨k1, y1, g1⟩, ⟨tb1, tg1, ts1, tx1⟩, l1, s1, f1, c1, r1, n1⟩ : Rq) ≠ (⟨t1, a2, b2, ⟨k2, y2, g2⟩, ⟨tb2, tg2, ts2, tx2⟩, l2, s2, f2, c2, r2, n2⟩ : Rq)) := Lib.hid (fun e => hd (congrArg Rq.admin e))
    have h0 : ((a1 : Int) == (a2 : Int)) = false := beq_eq_false_iff_ne.2 (by omega)
    clear hd 
    go_enter Try.func31, Try.ntmps31
    go_wp2_with fail
    go_ret
    exact ⟨false, rfl, ⟨(fun h => by cases h), fun h => absurd h HN.out⟩, HB.out⟩
  subst hd
  by_cases hd : b1 = b2
  rotate_left
  · have HN : Hid ((⟨t1, a1, b1, ⟨k1, y1, g1⟩, ⟨tb1, tg1, ts1, tx1⟩, l1, s1, f1, c1, r1, n1⟩ : Rq) ≠ (⟨t1, a1, b2, ⟨k2, y2, g2⟩, ⟨tb2, tg2, ts2, tx2⟩, l2, s2, f2, c2, r2, n2⟩ : Rq)) := Lib.hid (fun e => hd (congrArg Rq.bucket e))
    have h0 : (b1 == b2) = false := beq_eq_false_iff_ne.2 (by omega)
    clear hd 
    go_enter Try.func31, Try.ntmps31
    go_wp2_with fail
    go_ret
    exact ⟨false, rfl, ⟨(fun h => by cases h), fun h => absurd h HN.out⟩, HB.out⟩
  subst hd
  have hqe := fun w => quo_equal ⟨k1, y1, g1⟩ ⟨k2, y2, g2⟩ w
  have hql := fun w => quo_eql ⟨k1, y1, g1⟩ ⟨k2, y2, g2⟩ w
  have hqi := quoEq_iff ⟨k1, y1, g1⟩ ⟨k2, y2, g2⟩
  obtain ⟨z, hz⟩ : ∃ z, z = quoEq ⟨k1, y1, g1⟩ ⟨k2, y2, g2⟩ := ⟨_, rfl⟩
  rw [← hz] at hqe hql hqi
  simp only [qv] at hqe hql
  clear hz
  by_cases hd : (⟨k1, y1, g1⟩ : Quo) = ⟨k2, y2, g2⟩
  rotate_left
  · have HN : Hid ((⟨t1, a1, b1, ⟨k1, y1, g1⟩, ⟨tb1, tg1, ts1, tx1⟩, l1, s1, f1, c1, r1, n1⟩ : Rq) ≠ (⟨t1, a1, b1, ⟨k2, y2, g2⟩, ⟨tb2, tg2, ts2, tx2⟩, l2, s2, f2, c2, r2, n2⟩ : Rq)) := Lib.hid (fun e => hd (congrArg Rq.quo e))
    have hzf : z = false := by cases z; rfl; exact absurd (hqi.1 rfl) hd
    subst hzf
    try simp only [Bool.not_false] at hql
    clear hd hqi
    go_enter Try.func31, Try.ntmps31
    go_wp2_with fail
    go_ret
    exact ⟨false, rfl, ⟨(fun h => by cases h), fun h => absurd h HN.out⟩, HB.out⟩
  have hzt : z = true := hqi.2 hd
  subst hzt
  injection hd with hd1 hd2 hd3
  subst hd1 hd2 hd3
  try simp only [Bool.not_true] at hql
  clear hqi
  have hte := fun w => tok_equal ⟨tb1, tg1, ts1, tx1⟩ ⟨tb2, tg2, ts2, tx2⟩ w
  have htl := fun w => tok_eql ⟨tb1, tg1, ts1, tx1⟩ ⟨tb2, tg2, ts2, tx2⟩ w
  have hti := tokEq_iff ⟨tb1, tg1, ts1, tx1⟩ ⟨tb2, tg2, ts2, tx2⟩
  obtain ⟨z, hz⟩ : ∃ z, z = tokEq ⟨tb1, tg1, ts1, tx1⟩ ⟨tb2, tg2, ts2, tx2⟩ := ⟨_, rfl⟩
  rw [← hz] at hte htl hti
  simp only [tv] at hte htl
  clear hz
  by_cases hd : (⟨tb1, tg1, ts1, tx1⟩ : Tok) = ⟨tb2, tg2, ts2, tx2⟩
  rotate_left
  · have HN : Hid ((⟨t1, a1, b1, ⟨k1, y1, g1⟩, ⟨tb1, tg1, ts1, tx1⟩, l1, s1, f1, c1, r1, n1⟩ : Rq) ≠ (⟨t1, a1, b1, ⟨k1, y1, g1⟩, ⟨tb2, tg2, ts2, tx2⟩, l2, s2, f2, c2, r2, n2⟩ : Rq)) := Lib.hid (fun e => hd (congrArg Rq.tok e))
    have hzf : z = false := by cases z; rfl; exact absurd (hti.1 rfl) hd
    subst hzf
    try simp only [Bool.not_false] at htl
    clear hd hti
    go_enter Try.func31, Try.ntmps31
    go_wp2_with fail
    go_ret
    exact ⟨false, rfl, ⟨(fun h => by cases h), fun h => absurd h HN.out⟩, HB.out⟩
  have hzt : z = true := hti.2 hd
  subst hzt
  injection hd with hd1 hd2 hd3 hd4
  subst hd1 hd2 hd3 hd4
  try simp only [Bool.not_true] at htl
  clear hti
  go_enter Try.func31, Try.ntmps31
  go_wp2_with fail
  refine HO.out.mono ?_
  rintro e w2 ⟨z, rfl, hzi, hb2⟩
  have HB2 := Lib.hid (HB.out.trans hb2 (fun _ _ e => e))
  clear hqe hql hte htl
  have x11 : w2.cell? ⟨w.heap.size, 11, none⟩ = some (.string s1) := ((HBX.out.1.but hb2 (fun e => e)).cell 11).trans rfl
  have u11 : w2.cell? ⟨w.heap.size + 1, 11, none⟩ = some (.string s2) := ((HBX.out.2.but hb2 (fun e => e)).cell 11).trans rfl
  have x12 : w2.cell? ⟨w.heap.size, 12, none⟩ = some (.bool f1) := ((HBX.out.1.but hb2 (fun e => e)).cell 12).trans rfl
  have u12 : w2.cell? ⟨w.heap.size + 1, 12, none⟩ = some (.bool f2) := ((HBX.out.2.but hb2 (fun e => e)).cell 12).trans rfl
  have x13 : w2.cell? ⟨w.heap.size, 13, none⟩ = some (.int .i64 c1) := ((HBX.out.1.but hb2 (fun e => e)).cell 13).trans rfl
  have u13 : w2.cell? ⟨w.heap.size + 1, 13, none⟩ = some (.int .i64 c2) := ((HBX.out.2.but hb2 (fun e => e)).cell 13).trans rfl
  have x14 : w2.cell? ⟨w.heap.size, 14, none⟩ = some (.int .i64 r1) := ((HBX.out.1.but hb2 (fun e => e)).cell 14).trans rfl
  have u14 : w2.cell? ⟨w.heap.size + 1, 14, none⟩ = some (.int .i64 r2) := ((HBX.out.2.but hb2 (fun e => e)).cell 14).trans rfl
  have x15 : w2.cell? ⟨w.heap.size, 15, none⟩ = some (.int .u32 (n1 : Int)) := ((HBX.out.1.but hb2 (fun e => e)).cell 15).trans rfl
  have u15 : w2.cell? ⟨w.heap.size + 1, 15, none⟩ = some (.int .u32 (n2 : Int)) := ((HBX.out.2.but hb2 (fun e => e)).cell 15).trans rfl
  clear hb2 HO HS HBX HB
  by_cases hd : l1 = l2
  rotate_left
  · have HN : Hid ((⟨t1, a1, b1, ⟨k1, y1, g1⟩, ⟨tb1, tg1, ts1, tx1⟩, l1, s1, f1, c1, r1, n1⟩ : Rq) ≠ (⟨t1, a1, b1, ⟨k1, y1, g1⟩, ⟨tb1, tg1, ts1, tx1⟩, l2, s2, f2, c2, r2, n2⟩ : Rq)) := Lib.hid (fun e => hd (congrArg Rq.ops e))
    have hzf : z = false := by cases z; rfl; exact absurd (hzi.1 rfl) hd
    subst hzf
    clear hd hzi
    go_wp2_with fail
    go_ret
    exact ⟨false, rfl, ⟨(fun h => by cases h), fun h => absurd h HN.out⟩, HB2.out⟩
  have hzt : z = true := hzi.2 hd
  subst hzt
  subst hd
  clear hzi
  by_cases hd : s1 = s2
  rotate_left
  · have HN : Hid ((⟨t1, a1, b1, ⟨k1, y1, g1⟩, ⟨tb1, tg1, ts1, tx1⟩, l1, s1, f1, c1, r1, n1⟩ : Rq) ≠ (⟨t1, a1, b1, ⟨k1, y1, g1⟩, ⟨tb1, tg1, ts1, tx1⟩, l1, s2, f2, c2, r2, n2⟩ : Rq)) := Lib.hid (fun e => hd (congrArg Rq.after e))
    have h0 : (s1.toList == s2.toList) = false := by rw [str_same]; exact decide_eq_false hd
    clear hd 
    go_wp2_with fail
    go_ret
    exact ⟨false, rfl, ⟨(fun h => by cases h), fun h => absurd h HN.out⟩, HB2.out⟩
  subst hd
  by_cases hd : f1 = f2
  rotate_left
  · have HN : Hid ((⟨t1, a1, b1, ⟨k1, y1, g1⟩, ⟨tb1, tg1, ts1, tx1⟩, l1, s1, f1, c1, r1, n1⟩ : Rq) ≠ (⟨t1, a1, b1, ⟨k1, y1, g1⟩, ⟨tb1, tg1, ts1, tx1⟩, l1, s1, f2, c2, r2, n2⟩ : Rq)) := Lib.hid (fun e => hd (congrArg Rq.first e))
    have h0 : (f1 == f2) = false := by cases f1 <;> cases f2 <;> first | rfl | exact absurd rfl hd
    clear hd 
    go_wp2_with fail
    go_ret
    exact ⟨false, rfl, ⟨(fun h => by cases h), fun h => absurd h HN.out⟩, HB2.out⟩
  subst hd
  by_cases hd : c1 = c2
  rotate_left
  · have HN : Hid ((⟨t1, a1, b1, ⟨k1, y1, g1⟩, ⟨tb1, tg1, ts1, tx1⟩, l1, s1, f1, c1, r1, n1⟩ : Rq) ≠ (⟨t1, a1, b1, ⟨k1, y1, g1⟩, ⟨tb1, tg1, ts1, tx1⟩, l1, s1, f1, c2, r2, n2⟩ : Rq)) := Lib.hid (fun e => hd (congrArg Rq.count e))
    have h0 : (c1 == c2) = false := beq_eq_false_iff_ne.2 (by omega)
    clear hd 
    go_wp2_with fail
    go_ret
    exact ⟨false, rfl, ⟨(fun h => by cases h), fun h => absurd h HN.out⟩, HB2.out⟩
  subst hd
  by_cases hd : r1 = r2
  rotate_left
  · have HN : Hid ((⟨t1, a1, b1, ⟨k1, y1, g1⟩, ⟨tb1, tg1, ts1, tx1⟩, l1, s1, f1, c1, r1, n1⟩ : Rq) ≠ (⟨t1, a1, b1, ⟨k1, y1, g1⟩, ⟨tb1, tg1, ts1, tx1⟩, l1, s1, f1, c1, r2, n2⟩ : Rq)) := Lib.hid (fun e => hd (congrArg Rq.rights e))
    have h0 : (r1 == r2) = false := beq_eq_false_iff_ne.2 (by omega)
    clear hd 
    go_wp2_with fail
    go_ret
    exact ⟨false, rfl, ⟨(fun h => by cases h), fun h => absurd h HN.out⟩, HB2.out⟩
  subst hd
  by_cases hd : n1 = n2
  rotate_left
  · have HN : Hid ((⟨t1, a1, b1, ⟨k1, y1, g1⟩, ⟨tb1, tg1, ts1, tx1⟩, l1, s1, f1, c1, r1, n1⟩ : Rq) ≠ (⟨t1, a1, b1, ⟨k1, y1, g1⟩, ⟨tb1, tg1, ts1, tx1⟩, l1, s1, f1, c1, r1, n2⟩ : Rq)) := Lib.hid (fun e => hd (congrArg Rq.serial e))
    have h0 : ((n1 : Int) == (n2 : Int)) = false := beq_eq_false_iff_ne.2 (by omega)
    clear hd 
    go_wp2_with fail
    go_ret
    exact ⟨false, rfl, ⟨(fun h => by cases h), fun h => absurd h HN.out⟩, HB2.out⟩
  subst hd
  go_wp2_with fail
  go_ret
  exact ⟨true, rfl, ⟨fun _ => rfl, fun _ => rfl⟩, HB2.out⟩
end Go.Proofs.Ytbdbbnpkekcefaa.Cmd

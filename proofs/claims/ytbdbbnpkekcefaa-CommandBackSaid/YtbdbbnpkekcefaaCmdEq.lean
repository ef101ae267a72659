/- Whether two ops, tokens, quotas are the same; whether two slices of ops are. -/
import Derived.Test.YtbdbbnpkekcefaaCmdMem
import Derived.Laws.StructEq
namespace Go.Proofs.Ytbdbbnpkekcefaa.Cmd
open Go.Proofs.Ytbdbbnpkekcefaa.Mem Go.Proofs.Ytbdbbnpkekcefaa.Pack
open Go.ChangeShapes Go.WideShapes Go.ChangeAt Go.RowKit
set_option linter.unusedVariables false
set_option linter.unusedSimpArgs false

section
variable {P : Program} {d : Nat} {xs ys : Array Value} {f : Field} {fs : List Field} {w : World}
theorem eq_end : (Go.Op.eqFields d xs ys []).run P w = .ok true w := by simp [Go.Op.eqFields]
theorem eq_field {u v : Value} {c r : Bool} (hn : f.name ≠ "_") (h1 : (Go.part f.type xs f.offset).run P w = .ok u w) (h2 : (Go.part f.type ys f.offset).run P w = .ok v w) (h3 : (Go.Op.equalIn d f.type u v).run P w = .ok c w) (h4 : (Go.Op.eqFields d xs ys fs).run P w = .ok r w) :
    (Go.Op.eqFields d xs ys (f :: fs)).run P w = .ok (c && r) w := by
  rw [Go.Op.eqFields, if_pos hn]
  simp only [Sem.run_bind, h1, h2, h3, Result.andThen_ok, Sem.run_ite]
  cases c
  · simp
  · simpa using h4
theorem part_one {t : TypeId} {cs : Array Value} {off : Nat} {u : Value} (ha : (isAgg t).run P w = .ok false w) (h : cs[off]? = some u) : (Go.part t cs off).run P w = .ok u w := by
  unfold Go.part
  simp [ha, h]
end
theorem agg_no (w : World) : (isAgg 3).run Try.prog w = .ok false w ∧ (isAgg 2).run Try.prog w = .ok false w ∧ (isAgg 27).run Try.prog w = .ok false w ∧ (isAgg 24).run Try.prog w = .ok false w ∧ (isAgg 9).run Try.prog w = .ok false w ∧ (isAgg 4).run Try.prog w = .ok false w := by
  refine ⟨?_, ?_, ?_, ?_, ?_, ?_⟩
  · simp [isAgg, run_underlying Try.underlying3]
  · simp [isAgg, run_underlying Try.underlying2]
  · simp [isAgg, run_underlying Try.underlying27]
  · simp [isAgg, run_underlying Try.underlying24]
  · simp [isAgg, run_underlying Try.underlying9]
  · simp [isAgg, run_underlying Try.underlying4]
theorem str_same (a b : ByteArray) : (a.toList == b.toList) = decide (a = b) := by
  rw [ByteArray.toList_eq, ByteArray.toList_eq, Bool.eq_iff_iff]
  obtain ⟨⟨x⟩⟩ := a
  obtain ⟨⟨y⟩⟩ := b
  simp
def opEq (a b : Op) : Bool := (a.del == b.del) && ((a.key.toList == b.key.toList) && ((a.val.toList == b.val.toList) && (((a.cond : Int) == (b.cond : Int)) && (((a.ttl : Int) == (b.ttl : Int)) && true))))
theorem opEq_iff (a b : Op) : opEq a b = true ↔ a = b := by
  obtain ⟨⟩ := a
  obtain ⟨⟩ := b
  unfold opEq
  rw [str_same, str_same]
  simp [Int.natCast_inj, and_assoc]
def quoEq (a b : Quo) : Bool := (a.k == b.k) && ((a.b == b.b) && ((a.g == b.g) && true))
theorem quoEq_iff (a b : Quo) : quoEq a b = true ↔ a = b := by
  obtain ⟨⟩ := a
  obtain ⟨⟩ := b
  unfold quoEq
  simp [and_assoc]
def tokEq (a b : Tok) : Bool := (a.b == b.b) && (((a.g : Int) == (b.g : Int)) && (((a.s : Int) == (b.s : Int)) && (((a.x : Int) == (b.x : Int)) && true)))
theorem tokEq_iff (a b : Tok) : tokEq a b = true ↔ a = b := by
  obtain ⟨⟩ := a
  obtain ⟨⟩ := b
  unfold tokEq
  simp [Int.natCast_inj, and_assoc]
theorem op_equal (a b : Op) (w : World) : (Go.Op.equal 87 (ov a) (ov b)).run Try.prog w = .ok (opEq a b) w := by
  have h1 : Try.prog.stoodInHeld 87 = false := by kernel_rfl
  obtain ⟨ki, kl, ku, kw, ks, kb⟩ := agg_no w
  unfold Go.Op.equal ov
  rw [show Go.Op.maxDepth = 9997 + 1 + 1 + 1 from rfl, run_equalIn_struct _ _ _ _ _ (by kernel_rfl) h1]
  obtain ⟨fs, hfs⟩ : ∃ fs, (Try.prog.fieldsOf 87).toList = fs := ⟨_, rfl⟩
  rw [hfs]
  simp [Program.fieldsOf, Try.underlying87] at hfs
  subst hfs
  unfold opEq
  refine eq_field (by decide) (part_one kb rfl) (part_one kb rfl) (run_equalIn_bool' _ _ _ _ _ Try.underlying4) ?_
  refine eq_field (by decide) (part_one ks rfl) (part_one ks rfl) (run_equalIn_string _ _ _ _ _ Try.underlying9) ?_
  refine eq_field (by decide) (part_one ks rfl) (part_one ks rfl) (run_equalIn_string _ _ _ _ _ Try.underlying9) ?_
  refine eq_field (by decide) (part_one kw rfl) (part_one kw rfl) (run_equalIn_int _ _ _ _ _ _ _ Try.underlying24) ?_
  exact eq_field (by decide) (part_one kw rfl) (part_one kw rfl) (run_equalIn_int _ _ _ _ _ _ _ Try.underlying24) eq_end
theorem op_eql (a b : Op) (w : World) : (binOp .eql 87 (ov a) (ov b)).run Try.prog w = .ok (.bool (opEq a b)) w := by
  have h := op_equal a b w
  unfold ov at h ⊢
  simp [binOp, h]
theorem op_neq (a b : Op) (w : World) : (binOp .neq 87 (ov a) (ov b)).run Try.prog w = .ok (.bool (!opEq a b)) w := by
  have h := op_equal a b w
  unfold ov at h ⊢
  simp [binOp, h]
theorem rop_equal (a b : Op) (w : World) : (Go.Op.equal 83 (ov a) (ov b)).run Try.prog w = .ok (opEq a b) w := by
  have h1 : Try.prog.stoodInHeld 83 = false := by kernel_rfl
  obtain ⟨ki, kl, ku, kw, ks, kb⟩ := agg_no w
  unfold Go.Op.equal ov
  rw [show Go.Op.maxDepth = 9997 + 1 + 1 + 1 from rfl, run_equalIn_struct _ _ _ _ _ (by kernel_rfl) h1]
  obtain ⟨fs, hfs⟩ : ∃ fs, (Try.prog.fieldsOf 83).toList = fs := ⟨_, rfl⟩
  rw [hfs]
  simp [Program.fieldsOf, Try.underlying83] at hfs
  subst hfs
  unfold opEq
  refine eq_field (by decide) (part_one kb rfl) (part_one kb rfl) (run_equalIn_bool' _ _ _ _ _ Try.underlying4) ?_
  refine eq_field (by decide) (part_one ks rfl) (part_one ks rfl) (run_equalIn_string _ _ _ _ _ Try.underlying9) ?_
  refine eq_field (by decide) (part_one ks rfl) (part_one ks rfl) (run_equalIn_string _ _ _ _ _ Try.underlying9) ?_
  refine eq_field (by decide) (part_one kw rfl) (part_one kw rfl) (run_equalIn_int _ _ _ _ _ _ _ Try.underlying24) ?_
  exact eq_field (by decide) (part_one kw rfl) (part_one kw rfl) (run_equalIn_int _ _ _ _ _ _ _ Try.underlying24) eq_end
theorem rop_eql (a b : Op) (w : World) : (binOp .eql 83 (ov a) (ov b)).run Try.prog w = .ok (.bool (opEq a b)) w := by
  have h := rop_equal a b w
  unfold ov at h ⊢
  simp [binOp, h]
theorem rop_neq (a b : Op) (w : World) : (binOp .neq 83 (ov a) (ov b)).run Try.prog w = .ok (.bool (!opEq a b)) w := by
  have h := rop_equal a b w
  unfold ov at h ⊢
  simp [binOp, h]
theorem quo_equal (a b : Quo) (w : World) : (Go.Op.equal 26 (qv a) (qv b)).run Try.prog w = .ok (quoEq a b) w := by
  have h1 : Try.prog.stoodInHeld 26 = false := by kernel_rfl
  obtain ⟨ki, kl, ku, kw, ks, kb⟩ := agg_no w
  unfold Go.Op.equal qv
  rw [show Go.Op.maxDepth = 9997 + 1 + 1 + 1 from rfl, run_equalIn_struct _ _ _ _ _ (by kernel_rfl) h1]
  obtain ⟨fs, hfs⟩ : ∃ fs, (Try.prog.fieldsOf 26).toList = fs := ⟨_, rfl⟩
  rw [hfs]
  simp [Program.fieldsOf, Try.underlying26] at hfs
  subst hfs
  unfold quoEq
  refine eq_field (by decide) (part_one kl rfl) (part_one kl rfl) (run_equalIn_int _ _ _ _ _ _ _ Try.underlying2) ?_
  refine eq_field (by decide) (part_one kl rfl) (part_one kl rfl) (run_equalIn_int _ _ _ _ _ _ _ Try.underlying2) ?_
  exact eq_field (by decide) (part_one kl rfl) (part_one kl rfl) (run_equalIn_int _ _ _ _ _ _ _ Try.underlying2) eq_end
theorem quo_eql (a b : Quo) (w : World) : (binOp .eql 26 (qv a) (qv b)).run Try.prog w = .ok (.bool (quoEq a b)) w := by
  have h := quo_equal a b w
  unfold qv at h ⊢
  simp [binOp, h]
theorem quo_neq (a b : Quo) (w : World) : (binOp .neq 26 (qv a) (qv b)).run Try.prog w = .ok (.bool (!quoEq a b)) w := by
  have h := quo_equal a b w
  unfold qv at h ⊢
  simp [binOp, h]
theorem tok_equal (a b : Tok) (w : World) : (Go.Op.equal 29 (tv a) (tv b)).run Try.prog w = .ok (tokEq a b) w := by
  have h1 : Try.prog.stoodInHeld 29 = false := by kernel_rfl
  obtain ⟨ki, kl, ku, kw, ks, kb⟩ := agg_no w
  unfold Go.Op.equal tv
  rw [show Go.Op.maxDepth = 9997 + 1 + 1 + 1 from rfl, run_equalIn_struct _ _ _ _ _ (by kernel_rfl) h1]
  obtain ⟨fs, hfs⟩ : ∃ fs, (Try.prog.fieldsOf 29).toList = fs := ⟨_, rfl⟩
  rw [hfs]
  simp [Program.fieldsOf, Try.underlying29] at hfs
  subst hfs
  unfold tokEq
  refine eq_field (by decide) (part_one ki rfl) (part_one ki rfl) (run_equalIn_int _ _ _ _ _ _ _ Try.underlying3) ?_
  refine eq_field (by decide) (part_one ku rfl) (part_one ku rfl) (run_equalIn_int _ _ _ _ _ _ _ Try.underlying27) ?_
  refine eq_field (by decide) (part_one ku rfl) (part_one ku rfl) (run_equalIn_int _ _ _ _ _ _ _ Try.underlying27) ?_
  exact eq_field (by decide) (part_one kw rfl) (part_one kw rfl) (run_equalIn_int _ _ _ _ _ _ _ Try.underlying24) eq_end
theorem tok_eql (a b : Tok) (w : World) : (binOp .eql 29 (tv a) (tv b)).run Try.prog w = .ok (.bool (tokEq a b)) w := by
  have h := tok_equal a b w
  unfold tv at h ⊢
  simp [binOp, h]
theorem tok_neq (a b : Tok) (w : World) : (binOp .neq 29 (tv a) (tv b)).run Try.prog w = .ok (.bool (!tokEq a b)) w := by
  have h := tok_equal a b w
  unfold tv at h ⊢
  simp [binOp, h]
theorem take_ext {l l' : List Op} {k : Nat} (hk : k < l.length) (hk' : k < l'.length) (h : l.take k = l'.take k) (he : l[k] = l'[k]) : l.take (k + 1) = l'.take (k + 1) := by
  rw [List.take_succ_eq_append_getElem hk, List.take_succ_eq_append_getElem hk', h, he]
set_option maxRecDepth 100000 in
set_option maxHeartbeats 4000000 in
theorem opsEq_any (sv sv' : Value) (l l' : List Op) (w : World) (h : OpsAt w sv l) (h' : OpsAt w sv' l') (hs : l.length ≤ 1000000) (hs' : l'.length ≤ 1000000) : Calls Try.prog 58 #[sv, sv'] w fun e w' => ∃ r : Bool, e = .returned (.bool r) ∧ (r = true ↔ l = l') ∧ But (fun _ => False) w w' := by
  obtain ⟨a, c, rfl, hx⟩ := h
  obtain ⟨a', c', rfl, hx'⟩ := h'
  have HX := Lib.hid hx
  have HX' := Lib.hid hx'
  clear hx hx'
  by_cases hl : l.length = l'.length
  rotate_left
  · have hb : ((l.length : Int) != (l'.length : Int)) = true := bne_iff_ne.2 (by omega)
    have hne : l ≠ l' := fun e => hl (by rw [e])
    have HN := Lib.hid hne
    clear hl hne
    go_enter Try.func58, Try.ntmps58
    go_wp2_with fail
    go_ret
    exact ⟨false, rfl, ⟨(fun h => by cases h), fun h => absurd h HN.out⟩, But.refl _ _⟩
  obtain ⟨m, hm⟩ : ∃ m, m = l'.length := ⟨_, rfl⟩
  rw [← hm] at hl ⊢
  rw [hl]
  have hms : m ≤ 1000000 := by omega
  have HM := Lib.hid (And.intro hl hm)
  clear hl hm hs hs'
  go_enter Try.func58, Try.ntmps58
  go_wp2_with fail
  go_loopw [5, 13] (fun u i wr => ∃ k : Nat, k ≤ m ∧ i = .int .i64 (k : Int) ∧ l.take k = l'.take k ∧ But (fun _ => False) w wr) (fun _ i _ => m - (intOf i).toNat)
  case atStart => exact ⟨0, Nat.zero_le _, rfl, rfl, But.refl _ _⟩
  case round =>
    obtain ⟨k, hk, rfl, hT, hbr⟩ := hrel
    by_cases hlt : k < m
    · obtain ⟨b, off, rfl, hblt, hc⟩ := HX.out (by have := HM.out; omega)
      obtain ⟨b', off', rfl, hblt', hc'⟩ := HX'.out (by have := HM.out; omega)
      have hk1 : k < l.length := by have := HM.out; omega
      have hk2 : k < l'.length := by have := HM.out; omega
      obtain ⟨o, ho⟩ : ∃ o, o = l[k] := ⟨_, rfl⟩
      obtain ⟨o', ho'⟩ : ∃ o, o = l'[k] := ⟨_, rfl⟩
      have hcr : ∀ i (h : i < l.length) j u, (ocells l[i])[j]? = some u → wr.cell? ⟨b, off + i * 5 + j, none⟩ = some u := fun i hi j u hu => (hbr.cell (p := ⟨b, off + i * 5 + j, none⟩) hblt (fun e => e)).trans (hc i hi j u hu)
      have hcr' : ∀ i (h : i < l'.length) j u, (ocells l'[i])[j]? = some u → wr.cell? ⟨b', off' + i * 5 + j, none⟩ = some u := fun i hi j u hu => (hbr.cell (p := ⟨b', off' + i * 5 + j, none⟩) hblt' (fun e => e)).trans (hc' i hi j u hu)
      obtain ⟨e0, e1, e2, e3, e4⟩ := OpsAt.cells hcr hk1 ho
      obtain ⟨f0, f1, f2, f3, f4⟩ := OpsAt.cells hcr' hk2 ho'
      have HBR := Lib.hid hbr
      have hne := fun w => op_neq o o' w
      have heq := fun w => op_equal o o' w
      have hiff := opEq_iff o o'
      obtain ⟨z, hz⟩ : ∃ z, z = opEq o o' := ⟨_, rfl⟩
      rw [← hz] at hne heq hiff
      unfold ov at hne heq
      have hno : z = false → l ≠ l' := fun e h => by
        have : o = o' := by rw [ho, ho']; subst h; rfl
        rw [hiff.2 this] at e
        cases e
      have hyes : z = true → l.take (k + 1) = l'.take (k + 1) := fun e => take_ext hk1 hk2 hT (by rw [← ho, ← ho']; exact hiff.1 e)
      have HNO := Lib.hid hno
      have HYES := Lib.hid hyes
      clear hc hc' hcr hcr' hbr ho ho' hiff hz hno hyes hT hk1 hk2
      cases z
      · simp only [Bool.not_false] at hne heq
        go_wp2
        go_quiet (fail)
        go_wp2
        go_ret
        exact ⟨false, rfl, ⟨(fun h => by cases h), fun h => absurd h (HNO.out (by trivial))⟩, HBR.out.drewN _⟩
      · simp only [Bool.not_true] at hne heq
        go_wp2
        go_quiet (fail)
        go_wp2
        go_roundw
        case rel => exact ⟨k + 1, by omega, by go_num, HYES.out (by trivial), HBR.out.drewN _⟩
        case measure => simp [intOf]; omega
    · have hkl : k = m := by omega
      subst hkl
      have hall : l = l' := by
        rw [← List.take_of_length_le (show l.length ≤ k by have := HM.out; omega), ← List.take_of_length_le (show l'.length ≤ k by have := HM.out; omega), hT]
      have HA := Lib.hid hall
      have HB := Lib.hid hbr
      clear hT hall hbr
      go_wp2
      go_ret
      exact ⟨true, rfl, ⟨fun _ => HA.out, fun _ => rfl⟩, HB.out⟩
end Go.Proofs.Ytbdbbnpkekcefaa.Cmd

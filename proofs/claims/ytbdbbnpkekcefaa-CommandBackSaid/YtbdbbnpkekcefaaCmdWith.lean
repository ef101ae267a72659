/- Whether a request is within its limits, and its bytes if it is. -/
import Derived.Test.YtbdbbnpkekcefaaCmdLim
namespace Go.Proofs.Ytbdbbnpkekcefaa.Cmd
open Go.Proofs.Ytbdbbnpkekcefaa.Mem Go.Proofs.Ytbdbbnpkekcefaa.Pack
open Go.ChangeShapes Go.WideShapes Go.ChangeAt Go.RowKit
set_option linter.unusedVariables false
set_option linter.unusedSimpArgs false

theorem lim_small {q : Rq} (h : lim q = true) (hi : RqIs q) : Small q.ops ∧ q.after.size ≤ 64 := by
  have ho := (lim_ops h).1
  unfold lim opsLim at h
  simp only [Bool.and_eq_true, decide_eq_true_eq] at h
  have ha := h.2.2.2.2.1.2.2
  have haf := h.2.2.2.2.2.1
  rw [List.all_eq_true] at ha
  have hk : ∀ o ∈ q.ops, o.key.size ≤ 64 ∧ o.val.size ≤ 1000 := fun o hm => by
    have := ha o hm
    unfold opLim at this
    simp only [Bool.and_eq_true, decide_eq_true_eq] at this
    exact this.2
  exact ⟨⟨hi.ops, fun o hm => by have := (hk o hm).1; omega, fun o hm => by have := (hk o hm).2; omega, by omega⟩, haf⟩
theorem cput_any (q : Rq) (hl : lim q = true) (hi : RqIs q) (sv : Value) (w : World) (hops : OpsAt w sv q.ops) : Calls Try.prog 23 #[rv q sv] w fun e w' => PutIs q w e w' := by
  have ht := lim_tag hl
  obtain ⟨hsm, haf⟩ := lim_small hl hi
  obtain ⟨tag, admin, bucket, ⟨qk, qb, qg⟩, ⟨tb, tg, ts, tx⟩, ops, after, first, count, rights, serial⟩ := q
  have haf : after.size ≤ 65535 := by have : after.size ≤ 64 := haf; omega
  have ht : 1 ≤ tag ∧ tag ≤ 13 := ht
  by_cases c1 : tag = 1 ∨ tag = 3
  · exact put_c1 tag c1 admin bucket qk qb qg tb tg ts tx ops after first count rights serial sv w hi.admin hi.tok hi.serial haf hsm hops _ rfl
  by_cases c2 : tag = 2
  · exact put_c2 tag c2 admin bucket qk qb qg tb tg ts tx ops after first count rights serial sv w hi.admin hi.tok hi.serial haf hsm hops _ rfl
  by_cases c4 : tag = 4 ∨ tag = 5
  · exact put_c4 tag c4 admin bucket qk qb qg tb tg ts tx ops after first count rights serial sv w hi.admin hi.tok hi.serial haf hsm hops _ rfl
  by_cases c6 : 6 ≤ tag ∧ tag ≤ 9
  · exact put_c6 tag c6 admin bucket qk qb qg tb tg ts tx ops after first count rights serial sv w hi.admin hi.tok hi.serial haf hsm hops _ rfl
  by_cases c10 : tag = 10
  · exact put_c10 tag c10 admin bucket qk qb qg tb tg ts tx ops after first count rights serial sv w hi.admin hi.tok hi.serial haf hsm hops _ rfl
  by_cases c11 : tag = 11
  · exact put_c11 tag c11 admin bucket qk qb qg tb tg ts tx ops after first count rights serial sv w hi.admin hi.tok hi.serial haf hsm hops _ rfl
  by_cases c12 : tag = 12
  · exact put_c12 tag c12 admin bucket qk qb qg tb tg ts tx ops after first count rights serial sv w hi.admin hi.tok hi.serial haf hsm hops _ rfl
  by_cases c13 : tag = 13
  · exact put_c13 tag c13 admin bucket qk qb qg tb tg ts tx ops after first count rights serial sv w hi.admin hi.tok hi.serial haf hsm hops _ rfl
  omega
set_option maxRecDepth 100000 in
set_option maxHeartbeats 4000000 in
theorem lim_any (q : Rq) (hi : RqIs q) (sv : Value) (w : World) (hops : OpsAt w sv q.ops) : Calls Try.prog 21 #[rv q sv] w fun e w' => e = .returned (.bool (lim q)) ∧ Below w.heap.size w w' := by
  obtain ⟨tag, admin, bucket, ⟨qk, qb, qg⟩, ⟨tb, tg, ts, tx⟩, ops, after, first, count, rights, serial⟩ := q
  have hops : OpsAt w sv ops := hops
  have hmq := fun w => may_any ⟨qk, qb, qg⟩ w
  have hwi := fun w h => within_any tag ops sv w h
  have hpz := fun h w => parts_0 tag h w
  have hpn : (1 ≤ tag ∧ tag ≤ 13) → ∃ c : Int, (c != 0) = true ∧ ∀ w, Calls Try.prog 43 #[.int .i64 tag] w fun e w' => e = .returned (.int .i64 c) ∧ w = w' := by
    intro h
    by_cases c1 : tag = 1 ∨ tag = 3
    · exact ⟨7, rfl, fun w => parts_c1 c1 w⟩
    by_cases c2 : tag = 2
    · exact ⟨3, rfl, fun w => parts_c2 c2 w⟩
    by_cases c4 : tag = 4 ∨ tag = 5
    · exact ⟨1, rfl, fun w => parts_c4 c4 w⟩
    by_cases c6 : 6 ≤ tag ∧ tag ≤ 9
    · exact ⟨24, rfl, fun w => parts_c6 c6 w⟩
    by_cases c10 : tag = 10
    · exact ⟨40, rfl, fun w => parts_c10 c10 w⟩
    by_cases c11 : tag = 11
    · exact ⟨8, rfl, fun w => parts_c11 c11 w⟩
    by_cases c12 : tag = 12
    · exact ⟨72, rfl, fun w => parts_c12 c12 w⟩
    by_cases c13 : tag = 13
    · exact ⟨136, rfl, fun w => parts_c13 c13 w⟩
    omega
  have hL : lim ⟨tag, admin, bucket, ⟨qk, qb, qg⟩, ⟨tb, tg, ts, tx⟩, ops, after, first, count, rights, serial⟩ = (decide (1 ≤ tag ∧ tag ≤ 13) && (decide (0 ≤ bucket) && (decide (bucket < 64) && (mayQuo ⟨qk, qb, qg⟩ && (opsLim tag ops && (decide ((after.size : Int) ≤ 64) && (decide (0 ≤ count) && (decide (count ≤ 50) && decide (tag ≠ 12 ∨ 1 ≤ rights ∧ rights ≤ 7))))))))) := by
    unfold lim
    simp only
    rw [show decide ((after.size : Int) ≤ 64) = decide (after.size ≤ 64) from decide_eq_decide.2 (by omega)]
  clear hi
  obtain ⟨m4, hm4⟩ : ∃ b, b = mayQuo ⟨qk, qb, qg⟩ := ⟨_, rfl⟩
  obtain ⟨m5, hm5⟩ : ∃ b, b = opsLim tag ops := ⟨_, rfl⟩
  rw [← hm4] at hmq hL
  rw [← hm5] at hwi hL
  clear hm4 hm5
  have HL := Lib.hid hL
  clear hL
  have hbx : Blk (w.alloc (.cells #[.int .i64 tag, .int .u64 (admin : Int), .int .i64 bucket, .int .i64 qk, .int .i64 qb, .int .i64 qg, .int .i64 tb, .int .u32 (tg : Int), .int .u32 (ts : Int), .int .u64 (tx : Int), sv, .string after, .bool first, .int .i64 count, .int .i64 rights, .int .u32 (serial : Int)] 32)) w.heap.size 32 #[.int .i64 tag, .int .u64 (admin : Int), .int .i64 bucket, .int .i64 qk, .int .i64 qb, .int .i64 qg, .int .i64 tb, .int .u32 (tg : Int), .int .u32 (ts : Int), .int .u64 (tx : Int), sv, .string after, .bool first, .int .i64 count, .int .i64 rights, .int .u32 (serial : Int)] := Blk.new _ _ _
  have hbw : Below w.heap.size w (w.alloc (.cells #[.int .i64 tag, .int .u64 (admin : Int), .int .i64 bucket, .int .i64 qk, .int .i64 qb, .int .i64 qg, .int .i64 tb, .int .u32 (tg : Int), .int .u32 (ts : Int), .int .u64 (tx : Int), sv, .string after, .bool first, .int .i64 count, .int .i64 rights, .int .u32 (serial : Int)] 32)) := (Below.refl _ _).alloc (Nat.le_refl _) _
  simp only [rv, rcells]
  have H0 := Lib.hid (And.intro hbx (And.intro hbw hops))
  clear hops
  by_cases d1 : 1 ≤ tag ∧ tag ≤ 13
  rotate_left
  · have hp := hpz (by omega)
    have D1 := Lib.hid (decide_eq_false d1)
    clear hpz hpn hmq hwi hbx
    have HB := Lib.hid hbw
    clear hbw
    go_enter Try.func21, Try.ntmps21
    go_wp2_with fail
    refine (hp _).mono ?_
    rintro e w1 ⟨rfl, rfl⟩
    clear d1
    go_wp2_with fail
    go_ret
    exact ⟨by rw [HL.out, D1.out]; rfl, HB.out⟩
  obtain ⟨c, hc0, hp⟩ := hpn d1
  have D1 := Lib.hid (decide_eq_true d1)
  clear hpz hpn d1 hbx hbw
  go_enter Try.func21, Try.ntmps21
  go_wp2_with fail
  refine (hp _).mono ?_
  rintro e w1 ⟨rfl, rfl⟩
  clear hp
  obtain ⟨hbx, hbw, hops⟩ := H0.out
  have HB := Lib.hid hbw
  clear hbx hbw hops
  by_cases dd : 0 ≤ bucket
  rotate_left
  · have dd' : decide (0 ≤ bucket) = false := decide_eq_false dd
    have D2 := Lib.hid dd'
    clear dd
    go_wp2_with fail
    go_ret
    exact ⟨by rw [HL.out, D1.out, D2.out]; rfl, HB.out⟩
  have fD2 : decide (0 ≤ bucket) = true := decide_eq_true dd
  have D2 := Lib.hid fD2
  clear dd
  by_cases dd : bucket < 64
  rotate_left
  · have dd' : decide (bucket < 64) = false := decide_eq_false dd
    have D3 := Lib.hid dd'
    clear dd
    go_wp2_with fail
    go_ret
    exact ⟨by rw [HL.out, D1.out, D2.out, D3.out]; rfl, HB.out⟩
  have fD3 : decide (bucket < 64) = true := decide_eq_true dd
  have D3 := Lib.hid fD3
  clear dd
  go_wp2_with fail
  refine (hmq _).mono ?_
  rintro e w1 ⟨rfl, hb1⟩
  clear hmq fD2 fD3
  obtain ⟨hbx, hbw, hops⟩ := H0.out
  have hbx1 := hbx.but (But.of_new hb1 (S := fun _ => False)) (fun e => e)
  have hbw1 := hbw.trans (hb1.mono hbw.size)
  have hops1 := (hops.below hbw).below hb1
  clear hbx hbw hops H0 HB
  have HB := Lib.hid hbw1
  have HX := Lib.hid (And.intro hbx1 hops1)
  cases m4
  · clear hwi hb1 hbx1 hbw1 hops1 HX
    go_wp2_with fail
    go_ret
    exact ⟨by rw [HL.out, D1.out, D2.out, D3.out]; rfl, HB.out⟩
  have c0 : w1.cell? ⟨w.heap.size, 0, none⟩ = some (.int .i64 tag) := (hbx1.cell 0).trans rfl
  have c10 : w1.cell? ⟨w.heap.size, 10, none⟩ = some sv := (hbx1.cell 10).trans rfl
  clear hb1 hbx1 hbw1 hops1
  go_wp2_with fail
  clear c0 c10
  refine (hwi _ HX.out.2).mono ?_
  rintro e w2 ⟨rfl, hb2⟩
  clear hwi
  have HB2 := Lib.hid (HB.out.trans (hb2.mono HB.out.size))
  cases m5
  · clear hb2 HX HB
    go_wp2_with fail
    go_ret
    exact ⟨by rw [HL.out, D1.out, D2.out, D3.out]; rfl, HB2.out⟩
  have hbx2 := HX.out.1.but (But.of_new hb2 (S := fun _ => False)) (fun e => e)
  have c0 : w2.cell? ⟨w.heap.size, 0, none⟩ = some (.int .i64 tag) := (hbx2.cell 0).trans rfl
  have c11 : w2.cell? ⟨w.heap.size, 11, none⟩ = some (.string after) := (hbx2.cell 11).trans rfl
  have c13 : w2.cell? ⟨w.heap.size, 13, none⟩ = some (.int .i64 count) := (hbx2.cell 13).trans rfl
  have c14 : w2.cell? ⟨w.heap.size, 14, none⟩ = some (.int .i64 rights) := (hbx2.cell 14).trans rfl
  clear hb2 HX HB hbx2
  by_cases dd : (after.size : Int) ≤ 64
  rotate_left
  · have dd' : decide ((after.size : Int) ≤ 64) = false := decide_eq_false dd
    have D6 := Lib.hid dd'
    clear dd
    go_wp2_with fail
    go_ret
    exact ⟨by rw [HL.out, D1.out, D2.out, D3.out, D6.out]; rfl, HB2.out⟩
  have fD6 : decide ((after.size : Int) ≤ 64) = true := decide_eq_true dd
  have D6 := Lib.hid fD6
  clear dd
  by_cases dd : 0 ≤ count
  rotate_left
  · have dd' : decide (0 ≤ count) = false := decide_eq_false dd
    have D7 := Lib.hid dd'
    clear dd
    go_wp2_with fail
    go_ret
    exact ⟨by rw [HL.out, D1.out, D2.out, D3.out, D6.out, D7.out]; rfl, HB2.out⟩
  have fD7 : decide (0 ≤ count) = true := decide_eq_true dd
  have D7 := Lib.hid fD7
  clear dd
  by_cases dd : count ≤ 50
  rotate_left
  · have dd' : decide (count ≤ 50) = false := decide_eq_false dd
    have D8 := Lib.hid dd'
    clear dd
    go_wp2_with fail
    go_ret
    exact ⟨by rw [HL.out, D1.out, D2.out, D3.out, D6.out, D7.out, D8.out]; rfl, HB2.out⟩
  have fD8 : decide (count ≤ 50) = true := decide_eq_true dd
  have D8 := Lib.hid fD8
  clear dd
  by_cases dt : tag = 12
  rotate_left
  · have dt' : (tag != 12) = true := bne_iff_ne.2 dt
    have D9 := Lib.hid (show decide (tag ≠ 12 ∨ 1 ≤ rights ∧ rights ≤ 7) = true from decide_eq_true (Or.inl dt))
    clear dt
    go_wp2_with fail
    go_ret
    exact ⟨by rw [HL.out, D1.out, D2.out, D3.out, D6.out, D7.out, D8.out, D9.out]; rfl, HB2.out⟩
  subst dt
  have HE := Lib.hid (show decide ((12 : Int) ≠ 12 ∨ 1 ≤ rights ∧ rights ≤ 7) = (decide (1 ≤ rights) && decide (rights ≤ 7)) by simp)
  by_cases dd : 1 ≤ rights
  rotate_left
  · have dd' : decide (1 ≤ rights) = false := decide_eq_false dd
    have D9 := Lib.hid dd'
    clear dd
    go_wp2_with fail
    go_ret
    exact ⟨by rw [HL.out, D1.out, D2.out, D3.out, D6.out, D7.out, D8.out, HE.out, D9.out]; rfl, HB2.out⟩
  have fD9 : decide (1 ≤ rights) = true := decide_eq_true dd
  have D9 := Lib.hid fD9
  clear dd
  by_cases dd : rights ≤ 7
  rotate_left
  · have dd' : decide (rights ≤ 7) = false := decide_eq_false dd
    have D10 := Lib.hid dd'
    clear dd
    go_wp2_with fail
    go_ret
    exact ⟨by rw [HL.out, D1.out, D2.out, D3.out, D6.out, D7.out, D8.out, HE.out, D9.out, D10.out]; rfl, HB2.out⟩
  have fD10 : decide (rights ≤ 7) = true := decide_eq_true dd
  have D10 := Lib.hid fD10
  clear dd
  go_wp2_with fail
  go_ret
  exact ⟨by rw [HL.out, D1.out, D2.out, D3.out, D6.out, D7.out, D8.out, HE.out, D9.out, D10.out]; rfl, HB2.out⟩
end Go.Proofs.Ytbdbbnpkekcefaa.Cmd

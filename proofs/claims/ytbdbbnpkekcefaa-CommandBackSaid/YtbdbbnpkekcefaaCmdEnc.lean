/- What Encode answers; whether a request's parts are few, as the law asks. -/
import Derived.Test.YtbdbbnpkekcefaaCmdTold
namespace Go.Proofs.Ytbdbbnpkekcefaa.Cmd
open Go.Proofs.Ytbdbbnpkekcefaa.Mem Go.Proofs.Ytbdbbnpkekcefaa.Pack
open Go.ChangeShapes Go.WideShapes Go.ChangeAt Go.RowKit
set_option linter.unusedVariables false
set_option linter.unusedSimpArgs false

def EncIs (r : Rs) (w : World) (e : Ending) (w' : World) : Prop := ∃ v, e = .returned v ∧ w'.ownsRow w.heap.size 5 1 v (encOf r).length (cellsOf (encOf r)) ∧ Below w.heap.size w w'
set_option maxRecDepth 100000 in
set_option maxHeartbeats 4000000 in
theorem enc_any (r : Rs) (hr : RsSo r) (pv bv : Value) (lo : Nat) (w : World) (hp : ShowsFrom pcells 2 lo w pv r.page) (hb : ShowsFrom icells 1 lo w bv r.buckets) :
    Calls Try.prog 15 #[rsv r pv bv] w fun e w' => EncIs r w e w' := by
  have hlt := u64_lt r.code
  have hw0 := wrap_u64 r.code
  have HT := Lib.hid (fun v xs w1 hbw hown hl => putTold_any r hr pv bv w lo hp hb v 1 xs w.heap.size w1 rfl hbw hown hl)
  have hg0 := Going.start (scells r pv bv) 49 (own_none w) (Nat.le_refl _)
  clear hp hb
  unfold rsv at HT ⊢
  unfold scells at HT hg0 ⊢
  go_enter Try.func15, Try.ntmps15
  go_wp2_with fail
  refine (put_any (u64 r.code) hlt 1 (by omega) (by omega) _ _ _ _ _ hg0.own hg0.size (by omega)).mono ?_
  rintro e w1 ⟨v1, rfl, ho, hon⟩
  have hg1 := hg0.step ho hon
  clear ho hon hg0
  by_cases hc : r.code = 0
  · have hc1 : (r.code != 0) = false := by rw [hc]; rfl
    have c0 : w1.cell? ⟨w.heap.size, 0, none⟩ = some (.int .i64 r.code) := hg1.cell 0 rfl
    have c1 : w1.cell? ⟨w.heap.size, 1, none⟩ = some (.int .i64 r.tok.b) := hg1.cell 1 rfl
    have c2 : w1.cell? ⟨w.heap.size, 2, none⟩ = some (.int .u32 (r.tok.g : Int)) := hg1.cell 2 rfl
    have c3 : w1.cell? ⟨w.heap.size, 3, none⟩ = some (.int .u32 (r.tok.s : Int)) := hg1.cell 3 rfl
    have c4 : w1.cell? ⟨w.heap.size, 4, none⟩ = some (.int .u64 (r.tok.x : Int)) := hg1.cell 4 rfl
    have c5 : w1.cell? ⟨w.heap.size, 5, none⟩ = some (.int .u64 (r.ver : Int)) := hg1.cell 5 rfl
    have c6 : w1.cell? ⟨w.heap.size, 6, none⟩ = some (.string r.val) := hg1.cell 6 rfl
    have c7 : w1.cell? ⟨w.heap.size, 7, none⟩ = some (pv) := hg1.cell 7 rfl
    have c8 : w1.cell? ⟨w.heap.size, 8, none⟩ = some (.bool r.more) := hg1.cell 8 rfl
    have c9 : w1.cell? ⟨w.heap.size, 9, none⟩ = some (.int .i64 r.keys) := hg1.cell 9 rfl
    have c10 : w1.cell? ⟨w.heap.size, 10, none⟩ = some (.int .i64 r.bytes) := hg1.cell 10 rfl
    have c11 : w1.cell? ⟨w.heap.size, 11, none⟩ = some (.int .i64 r.charged) := hg1.cell 11 rfl
    have c12 : w1.cell? ⟨w.heap.size, 12, none⟩ = some (.int .u64 (r.seq : Int)) := hg1.cell 12 rfl
    have c13 : w1.cell? ⟨w.heap.size, 13, none⟩ = some (bv) := hg1.cell 13 rfl
    have HB := Lib.hid (hg1.onto.below (own_none w) (Nat.le_refl _))
    have HE := Lib.hid (show encOf r = put (u64 r.code) 1 ++ told r by unfold encOf; rw [if_pos hc])
    have HG := Lib.hid hg1
    clear hg1 hc
    go_wp2_with fail
    clear c0 c1 c2 c3 c4 c5 c6 c7 c8 c9 c10 c11 c12 c13
    refine (HT.out v1 _ w1 HB.out HG.out.own (by omega)).mono ?_
    rintro e w2 ⟨v2, rfl, ho, hon⟩
    have HF := Lib.hid (And.intro ho (hon.below HG.out.own HG.out.size))
    clear ho hon
    go_wp2_with fail
    go_ret
    refine ⟨_, rfl, row_eq HF.out.1 ?_ ?_, HB.out.trans HF.out.2⟩
    · rw [HE.out, List.length_append, put_length]; try omega
    · rw [HE.out]; rfl
  · have hc1 : (r.code != 0) = true := bne_iff_ne.2 hc
    have c0 := hg1.cell 0 rfl
    have HB := Lib.hid (hg1.onto.below (own_none w) (Nat.le_refl _))
    have HE := Lib.hid (show encOf r = put (u64 r.code) 1 by unfold encOf; rw [if_neg hc, List.append_nil])
    have HG := Lib.hid hg1
    clear hg1 hc
    go_wp2_with fail
    go_ret
    refine ⟨_, rfl, row_eq HG.out.own ?_ ?_, HB.out⟩
    · rw [HE.out, put_length]; try omega
    · rw [HE.out]; rfl
def FewIs (q : Rq) (w : World) (e : Ending) (w' : World) : Prop := ∃ r : Bool, e = .returned (.bool r) ∧ (r = true → (∀ o ∈ q.ops, o.key.size ≤ 100 ∧ o.val.size ≤ 1500) ∧ q.ops.length ≤ 20 ∧ q.after.size ≤ 100) ∧ Below w.heap.size w w'
set_option maxRecDepth 100000 in
set_option maxHeartbeats 4000000 in
theorem few_any (q : Rq) (sv : Value) (w : World) (hops : OpsAt w sv q.ops) (hl : q.ops.length ≤ 9223372036854775807) : Calls Try.prog 12 #[rv q sv] w fun e w' => FewIs q w e w' := by
  obtain ⟨tag, admin, bucket, ⟨qk, qb, qg⟩, ⟨tb, tg, ts, tx⟩, ops, after, first, count, rights, serial⟩ := q
  have hl : ops.length ≤ 9223372036854775807 := hl
  have hops : OpsAt w sv ops := hops
  obtain ⟨a, cap, rfl, hx⟩ := hops
  have HX := Lib.hid hx
  simp only [rv, rcells]
  obtain ⟨cs, hcs⟩ : ∃ cs : Array Value, cs = #[.int .i64 tag, .int .u64 (admin : Int), .int .i64 bucket, .int .i64 qk, .int .i64 qb, .int .i64 qg, .int .i64 tb, .int .u32 (tg : Int), .int .u32 (ts : Int), .int .u64 (tx : Int), .slice a ops.length cap, .string after, .bool first, .int .i64 count, .int .i64 rights, .int .u32 (serial : Int)] := ⟨_, rfl⟩
  have hbx : Blk (w.alloc (.cells cs 32)) w.heap.size 32 cs := Blk.new _ _ _
  have hbw : Below w.heap.size w (w.alloc (.cells cs 32)) := (Below.refl _ _).alloc (Nat.le_refl _) _
  have h10 : cs[10]? = some (.slice a ops.length cap) := by rw [hcs]; rfl
  have h11 : cs[11]? = some (.string after) := by rw [hcs]; rfl
  have H0 := Lib.hid (And.intro hbx (And.intro hbw (And.intro h10 h11)))
  rw [hcs] at H0
  clear hx hbx hbw h10 h11 hcs
  go_enter Try.func12, Try.ntmps12
  go_wp2_with fail
  go_loopw [3] (fun i wr => ∃ k : Nat, k ≤ ops.length ∧ i = .int .i64 (k : Int) ∧ (∀ o ∈ ops.take k, o.key.size ≤ 100 ∧ o.val.size ≤ 1500) ∧ wr.cell? ⟨w.heap.size, 10, none⟩ = some (.slice a ops.length cap) ∧ wr.cell? ⟨w.heap.size, 11, none⟩ = some (.string after) ∧ Below w.heap.size w wr) (fun i _ => ops.length - (intOf i).toNat)
  case atStart => exact ⟨0, Nat.zero_le _, rfl, fun o ho => absurd ho List.not_mem_nil, (H0.out.1.cell 10).trans rfl, (H0.out.1.cell 11).trans rfl, H0.out.2.1⟩
  case round =>
    obtain ⟨k, hk, rfl, hall, x10, x11, hbr⟩ := hrel
    clear H0
    have HBR := Lib.hid hbr
    have HALL := Lib.hid hall
    by_cases hlt : k < ops.length
    · obtain ⟨b, off, rfl, hblt, hc⟩ := HX.out (by omega)
      obtain ⟨o, hoe⟩ : ∃ o, o = ops[k] := ⟨_, rfl⟩
      have hcr : ∀ i (h : i < ops.length) j u, (ocells ops[i])[j]? = some u → wr.cell? ⟨b, off + i * 5 + j, none⟩ = some u := fun i hi j u hu => (hbr.cell (p := ⟨b, off + i * 5 + j, none⟩) hblt).trans (hc i hi j u hu)
      obtain ⟨e0, e1, e2, e3, e4⟩ := OpsAt.cells hcr hlt hoe
      have HOE := Lib.hid hoe
      obtain ⟨n, hn⟩ : ∃ n, n = o.key.size := ⟨_, rfl⟩
      obtain ⟨m, hm⟩ : ∃ m, m = o.val.size := ⟨_, rfl⟩
      have HNM := Lib.hid (And.intro hn hm)
      have hn1 : (o.key.size : Int) = (n : Int) := by rw [hn]
      have hm1 : (o.val.size : Int) = (m : Int) := by rw [hm]
      clear hoe hc hcr hbr hall hn hm e0 e3 e4
      by_cases a1 : 100 < n
      · have d1 : decide ((100 : Int) < (n : Int)) = true := decide_eq_true (by omega)
        go_wp2_with fail
        go_ret
        exact ⟨false, rfl, (fun h => by cases h), HBR.out⟩
      have d1 : decide ((100 : Int) < (n : Int)) = false := decide_eq_false (by omega)
      by_cases a2 : 1500 < m
      · have d2 : decide ((1500 : Int) < (m : Int)) = true := decide_eq_true (by omega)
        go_wp2_with fail
        go_ret
        exact ⟨false, rfl, (fun h => by cases h), HBR.out⟩
      have d2 : decide ((1500 : Int) < (m : Int)) = false := decide_eq_false (by omega)
      have HY := Lib.hid (show o.key.size ≤ 100 ∧ o.val.size ≤ 1500 by have := HNM.out; omega)
      have HXX := Lib.hid (And.intro x10 x11)
      go_wp2_with fail
      go_roundw
      case rel =>
        refine ⟨k + 1, by omega, by go_num, fun x hx => ?_, HXX.out.1, HXX.out.2, HBR.out⟩
        rw [List.take_succ_eq_append_getElem hlt] at hx
        rcases List.mem_append.1 hx with h | h
        · exact HALL.out x h
        · rw [List.mem_singleton.1 h, ← HOE.out]; exact HY.out
      case measure => simp [intOf]; omega
    · have hkl : k = ops.length := by omega
      subst hkl
      have HA := Lib.hid (show ∀ o ∈ ops, o.key.size ≤ 100 ∧ o.val.size ≤ 1500 by rw [List.take_of_length_le (Nat.le_refl _)] at hall; exact hall)
      obtain ⟨n, hn⟩ : ∃ n, n = after.size := ⟨_, rfl⟩
      have hn1 : (after.size : Int) = (n : Int) := by rw [hn]
      have HN := Lib.hid hn
      clear hall hbr hlt hk hn
      by_cases a1 : ops.length ≤ 20
      rotate_left
      · have d1 : decide ((ops.length : Int) ≤ 20) = false := decide_eq_false (by omega)
        go_wp2_with fail
        go_ret
        exact ⟨false, rfl, (fun h => by cases h), HBR.out⟩
      have d1 : decide ((ops.length : Int) ≤ 20) = true := decide_eq_true (by omega)
      by_cases a2 : n ≤ 100
      rotate_left
      · have d2 : decide ((n : Int) ≤ 100) = false := decide_eq_false (by omega)
        go_wp2_with fail
        go_ret
        exact ⟨false, rfl, (fun h => by cases h), HBR.out⟩
      have d2 : decide ((n : Int) ≤ 100) = true := decide_eq_true (by omega)
      have HY := Lib.hid (And.intro a1 (show after.size ≤ 100 by rw [← HN.out]; exact a2))
      go_wp2_with fail
      go_ret
      exact ⟨true, rfl, fun _ => ⟨HA.out, HY.out⟩, HBR.out⟩
end Go.Proofs.Ytbdbbnpkekcefaa.Cmd

/- BucketMakes, for every input: the walk of the law. -/
import Derived.Test.YtgjofinbdigmcaaBukUp
import Derived.Test.YtgjofinbdigmcaaRecRefQuota
namespace Go.Proofs.Ytgjofinbdigmcaa.Buk
open Go.Proofs.Ytgjofinbdigmcaa.Mem
open Go.ChangeShapes Go.WideShapes Go.ChangeAt Go.RowKit
set_option linter.unusedVariables false
set_option linter.unusedSimpArgs false
def QIn (a b c : Int) : Prop := Rec.inQ a ∧ Rec.inQ b ∧ Rec.inQ c
instance (a b c : Int) : Decidable (QIn a b c) := by unfold QIn; infer_instance
theorem app_id (B : Bk) (T : Tab) (r : Rcd) (p : Spt) : (app B T r p).id = B.id ∧ (app B T r p).gen = B.gen := by
  unfold app made
  split
  · refine ⟨?_, ?_⟩ <;> (dsimp only; split <;> (try split) <;> (try split) <;> rfl)
  · exact ⟨rfl, rfl⟩
theorem app_q {B : Bk} {T : Tab} {r : Rcd} {p : Spt} (h : QIn B.q1 B.q2 B.q3) : QIn (app B T r p).q1 (app B T r p).q2 (app B T r p).q3 := by
  unfold app
  by_cases ht : told B r = true
  · rw [if_pos ht]
    unfold made
    by_cases hk : r.kind = 1
    · rw [if_pos hk]
      have ho : Own B r := by
        unfold told at ht
        rw [Bool.and_eq_true] at ht
        exact of_decide_eq_true ht.1
      have hf := ho.1.2.2.2.2.2.2
      unfold Rec.fits at hf
      rw [if_pos hk] at hf
      exact hf
    · rw [if_neg hk]
      split
      · exact h
      · split <;> exact h
  · rw [if_neg ht]
    exact h
structure Run (W wr : World) (p0 i : Nat) (s : Bl) (B : Bk) (T : Tab) (m : List It) : Prop where
  bm : BM wr s B T m i
  ok : Ok B T m i
  p : s.p = p0
  id : B.id = 5
  gen : B.gen = 2
  q : QIn B.q1 B.q2 B.q3
  lo : ∀ j, Foot s j → W.heap.size ≤ j
  but : But (fun _ => False) W wr
section
variable {W wr w' : World} {p0 i : Nat} {s : Bl} {B : Bk} {T : Tab} {m : List It}
theorem Run.new (h : Run W wr p0 i s B T m) (hb : But (fun _ => False) wr w') : Run W w' p0 i s B T m := ⟨h.bm.new hb, h.ok, h.p, h.id, h.gen, h.q, h.lo, h.but.trans hb (fun _ _ h => h)⟩
theorem Run.next (h : Run W wr p0 i s B T m) {r : Rcd} {p : Spt} {j : Nat} (hm : Made wr s (app B T r p) (appT B T r p) j w') : ∃ s' m', Run W w' p0 j s' (app B T r p) (appT B T r p) m' := by
  obtain ⟨s', m', h1, h2, h3⟩ := hm
  refine ⟨s', m', h1, h2, h3.p.trans h.p, (app_id B T r p).1.trans h.id, (app_id B T r p).2.trans h.gen, app_q h.q, fun j hj => ?_, h.but.trans h3.but (fun j hj hf => by have := h.lo j hf; omega)⟩
  rcases h3.new j hj with h4 | h4
  · exact h.lo j h4
  · have := h.but.size; omega
theorem Run.apply (h : Run W wr p0 i s B T m) (hi : i + 1 ≤ 400) (r : Rcd) (hr : Rec.Is r) (p : Spt) (hp : SpOk p) :
    Calls Try.prog 7 #[.pointer (some ⟨p0, 0, none⟩), Rec.rv r, spV p] wr fun e w' => e = .returned (.bool (told B r)) ∧ ∃ s' m', Run W w' p0 (i + 1) s' (app B T r p) (appT B T r p) m' := by
  have := apply_any h.bm h.ok hi r hr p hp
  rw [h.p] at this
  exact this.mono (fun e w' hh => ⟨hh.1, h.next hh.2⟩)
theorem Run.apply2 (h : Run W wr p0 i s B T m) (hi : i + 1 ≤ 400) (r : Rcd) (hr : Rec.Is r) (p : Spt) (hp : SpOk p) :
    Calls Try.prog 7 #[.pointer (some ⟨p0, 0, none⟩), Rec.rv r, spV p] wr fun e w' => e = .returned (.bool (told B r)) ∧ ∃ s' m', Run W w' p0 (i + 1) s' (app B T r p) (appT B T r p) m' ∧ Step wr s s' w' := by
  have := apply_any h.bm h.ok hi r hr p hp
  rw [h.p] at this
  refine this.mono (fun e w' hh => ⟨hh.1, ?_⟩)
  obtain ⟨s', m', h1, h2, h3⟩ := hh.2
  refine ⟨s', m', ⟨h1, h2, h3.p.trans h.p, (app_id B T r p).1.trans h.id, (app_id B T r p).2.trans h.gen, app_q h.q, fun j hj => ?_, h.but.trans h3.but (fun j hj hf => by have := h.lo j hf; omega)⟩, h3⟩
  rcases h3.new j hj with h4 | h4
  · exact h.lo j h4
  · have := h.but.size; omega
theorem run_new {s : Bl} {q1 q2 q3 : Int} (h : BM wr s (newB 5 2 q1 q2 q3) noT [] 0) (hq : QIn q1 q2 q3) (hl : ∀ k, Foot s k → W.heap.size ≤ k) (hb : But (fun _ => False) W wr) : Run W wr s.p 0 s (newB 5 2 q1 q2 q3) noT [] :=
  ⟨h, ok_new 5 2 q1 q2 q3 (by omega) (by omega), rfl, rfl, rfl, hq, hl, hb⟩
end
theorem yields_spot {ops : Array Oper} {S : World → Prop} {op : Oper} {a : Act} (hw : Region.wanted op (yielded ops a.tmps) = true) (x : Operand) (ho : op.op = .load 35 x) (b o : Nat) (hx : a.eval x = .pointer (some ⟨b, o, none⟩)) (p : Spt) (hS : ∀ w, S w → w.rangeAt b o [.int .i64 p.1, .int .i64 p.2.1, .int .i64 p.2.2]) : YieldsIf Try.prog ops S op (spV p) a :=
  yieldsIf_load_mid hw _ x ho b o hx [.int .i64 p.1, .int .i64 p.2.1, .int .i64 p.2.2] _ hS Try.underlying35 rfl (by kernel_rfl)
/- What the records of a bucket make in a new one. -/
theorem may_meta {B : Bk} (hid : 0 ≤ B.id ∧ B.id < 64) (hg : 1 ≤ B.gen) (hq : QIn B.q1 B.q2 B.q3) : Rec.May (metaR B) :=
  ⟨by show (1 : Int) ≤ 1; omega, by show (1 : Int) ≤ 7; omega, hid.1, hid.2, hg, by simp [metaR, Rec.named], by simp only [metaR, Rec.fits, if_pos]; exact hq⟩
theorem may_tok {id : Int} {gen : Nat} {x : Rgt.Tok} (hid : 0 ≤ id ∧ id < 64) (hg : 1 ≤ gen) (hx : Rgt.Ok x) : Rec.May (tokR id gen x) :=
  ⟨by show (1 : Int) ≤ 5; omega, by show (5 : Int) ≤ 7; omega, hid.1, hid.2, hg, by simp [tokR, Rec.named], by simp only [tokR, Rec.fits]; exact hx.r⟩
theorem meta_is {B : Bk} {T : Tab} {m : List It} {i : Nat} (o : Ok B T m i) : Rec.Is (metaR B) :=
  ⟨by show (-9223372036854775808 : Int) ≤ 1 ∧ (1 : Int) ≤ _; omega, o.id, o.gen, o.seq, o.serial, by show (-9223372036854775808 : Int) ≤ 0 ∧ (0 : Int) ≤ _; omega, by show 0 < _; omega, by show 0 ≤ _; omega, by show 0 ≤ _; omega, by show 0 < _; omega, by show 0 < _; omega⟩
theorem app_meta {B : Bk} {T : Tab} {r : Rcd} {p : Spt} (ho : Own B r) (hk : r.kind = 1) : app B T r p = { B with q1 := r.keys, q2 := r.bytes, q3 := r.budget, seq := r.seq, serial := r.serial, bytes := tot (all T) } ∧ appT B T r p = T := by
  have ht : told B r = true := by unfold told; rw [decide_eq_true ho, hk]; rfl
  unfold app appT madeT made
  rw [ht, hk]
  exact ⟨rfl, rfl⟩
theorem app_tok {B : Bk} {T : Tab} {r : Rcd} {p : Spt} (ho : Own B r) (hk : r.kind = 5) (hpe : Rgt.putErr r.serial r.rights B.toks = 0) : app B T r p = { B with serial := b32 B.serial r.serial, toks := Rgt.put (tokOf r) B.toks, charged := B.charged + Rec.costOf r, bytes := tot (all T) } ∧ appT B T r p = T := by
  have ht : told B r = true := by unfold told; rw [decide_eq_true ho, hk, decide_eq_true hpe]; rfl
  unfold app appT madeT made
  rw [ht, hk]
  exact ⟨rfl, rfl⟩
theorem put_last {x : Rgt.Tok} : ∀ {T : List Rgt.Tok}, (∀ y ∈ T, y.s < x.s) → Rgt.put x T = T ++ [x]
  | [], _ => rfl
  | y :: T, h => by
    have h1 := h y (List.mem_cons_self ..)
    rw [Rgt.put, if_neg (by omega), if_neg (by omega), put_last (fun z hz => h z (List.mem_cons_of_mem _ hz))]
    rfl
theorem put_take {l : List Rgt.Tok} (h : Rgt.Ris l) {k : Nat} (hk : k < l.length) : Rgt.put l[k] (l.take k) = l.take (k + 1) := by
  rw [put_last, List.take_succ_eq_append_getElem hk]
  intro y hy
  obtain ⟨j, hj, rfl⟩ := List.mem_take_iff_getElem.1 hy
  exact List.pairwise_iff_getElem.1 h j k (by omega) hk (by omega)
theorem look_take_none {l : List Rgt.Tok} (h : Rgt.Good l) {k : Nat} (hk : k < l.length) : Rgt.putErr (l[k]).s (l[k]).r (l.take k) = 0 := by
  have h1 := (h.ok l[k] (List.getElem_mem hk)).r
  have h2 := h.len
  unfold Rgt.putErr
  rw [if_neg (by omega), if_neg (fun e => by have := e.2; rw [List.length_take] at this; omega)]
theorem quota_eql (a b c : Int) (w : World) : (binOp .eql 23 (.agg #[.int .i64 a, .int .i64 b, .int .i64 c]) (.agg #[.int .i64 a, .int .i64 b, .int .i64 c])).run Try.prog w = .ok (.bool true) w := by
  have h1 : Try.prog.stoodInHeld 23 = false := by kernel_rfl
  have ki : (isAgg 2).run Try.prog w = .ok false w := by simp [isAgg, run_underlying Try.underlying2]
  have h : (Op.equal 23 (.agg #[.int .i64 a, .int .i64 b, .int .i64 c]) (.agg #[.int .i64 a, .int .i64 b, .int .i64 c])).run Try.prog w = .ok ((a == a) && ((b == b) && ((c == c) && true))) w := by
    unfold Op.equal
    rw [show Op.maxDepth = 9997 + 1 + 1 + 1 from rfl, run_equalIn_struct _ _ _ _ _ (by kernel_rfl) h1]
    obtain ⟨fs, hfs⟩ : ∃ fs, (Try.prog.fieldsOf 23).toList = fs := ⟨_, rfl⟩
    rw [hfs]
    simp [Program.fieldsOf, Try.underlying23] at hfs
    subst hfs
    refine eq_field (by decide) (part_one ki rfl) (part_one ki rfl) (run_equalIn_int _ _ _ _ _ _ _ Try.underlying2) ?_
    refine eq_field (by decide) (part_one ki rfl) (part_one ki rfl) (run_equalIn_int _ _ _ _ _ _ _ Try.underlying2) ?_
    exact eq_field (by decide) (part_one ki rfl) (part_one ki rfl) (run_equalIn_int _ _ _ _ _ _ _ Try.underlying2) eq_end
  simp [binOp, h]
set_option maxRecDepth 100000 in
set_option maxHeartbeats 2000000 in
theorem makes_away (q1 q2 q3 : Int) (a : Option Addr) (n c : Nat) (key val : ByteArray) (W : World) (hn : n ≤ 9223372036854775807) (hk : key.size ≤ 9223372036854775807) (hv : val.size ≤ 9223372036854775807) (h : ¬ (n ≤ 100 ∧ 1 ≤ key.size ∧ key.size ≤ 64 ∧ val.size ≤ 1000 ∧ QIn q1 q2 q3)) :
    Calls Try.prog 3 #[.agg #[.int .i64 q1, .int .i64 q2, .int .i64 q3], .slice a n c, .string key, .string val] W fun e w' => e = .returned (.bool true) ∧ But (fun _ => False) W w' := by
  have HX0 := Lib.hid (Blk.new W 23 (quB q1 q2 q3))
  have HB0 := Lib.hid ((But.refl (fun _ => False) W).alloc (.cells (quB q1 q2 q3) 23))
  go_enter Try.func3, Try.ntmps3
  go_wp2_with fail
  change Calls _ _ _ (W.alloc (.cells (quB q1 q2 q3) 23)) _
  refine (up_any _).mono ?_
  rintro e w1 ⟨rfl, hb1⟩
  obtain ⟨b4, hb4⟩ : ∃ b, b = W.heap.size := ⟨_, rfl⟩
  have HX1 := Lib.hid (HX0.out.but hb1 (fun h => h))
  rw [← hb4] at HX1 ⊢
  have HB1 := Lib.hid (HB0.out.trans hb1 (fun _ _ h => h))
  clear hb1 hb4
  by_cases h0 : 100 < n
  · have d0 : 100 < (n : Int) := by omega
    go_wp2_with fail
    go_ret
    exact ⟨rfl, HB1.out⟩
  · have d0 : ¬ 100 < (n : Int) := by omega
    by_cases h1 : key.size < 1
    · have d1 : (key.size : Int) < 1 := by omega
      go_wp2_with fail
      go_ret
      exact ⟨rfl, HB1.out⟩
    · have d1 : ¬ (key.size : Int) < 1 := by omega
      by_cases h2 : 64 < key.size
      · have d2 : 64 < (key.size : Int) := by omega
        go_wp2_with fail
        go_ret
        exact ⟨rfl, HB1.out⟩
      · have d2 : ¬ 64 < (key.size : Int) := by omega
        by_cases h3 : 1000 < val.size
        · have d3 : 1000 < (val.size : Int) := by omega
          go_wp2_with fail
          go_ret
          exact ⟨rfl, HB1.out⟩
        · have d3 : ¬ 1000 < (val.size : Int) := by omega
          have hq : ¬ QIn q1 q2 q3 := fun hq => h ⟨by omega, by omega, by omega, by omega, hq⟩
          have e0 : w1.cell? ⟨b4, 0, none⟩ = some (.int .i64 q1) := HX1.out.cell 0
          have e1 : w1.cell? ⟨b4, 1, none⟩ = some (.int .i64 q2) := HX1.out.cell 1
          have e2 : w1.cell? ⟨b4, 2, none⟩ = some (.int .i64 q3) := HX1.out.cell 2
          have HQ := Lib.hid (Rec.refQuota_any q1 q2 q3 w1)
          rw [show decide (Rec.inQ q1 ∧ Rec.inQ q2 ∧ Rec.inQ q3) = false from decide_eq_false hq] at HQ
          clear h hq
          go_wp2_with fail
          refine HQ.out.mono ?_
          rintro e w2 ⟨rfl, rfl⟩
          go_wp2_with fail
          go_ret
          exact ⟨rfl, HB1.out.alloc _⟩
set_option maxRecDepth 100000 in
set_option maxHeartbeats 8000000 in
theorem makes_any (q1 q2 q3 : Int) (a : Option Addr) (l : List Deed) (c : Nat) (key val : ByteArray) (W : World) (hD : Deeds W a l) (h : l.length ≤ 100 ∧ 1 ≤ key.size ∧ key.size ≤ 64 ∧ val.size ≤ 1000 ∧ QIn q1 q2 q3) :
    Calls Try.prog 3 #[.agg #[.int .i64 q1, .int .i64 q2, .int .i64 q3], .slice a l.length c, .string key, .string val] W fun e w' => e = .returned (.bool true) ∧ But (fun _ => False) W w' := by
  obtain ⟨h100, hk1, hk64, hv1000, hq⟩ := h
  have HQI := Lib.hid hq
  have d1 : ¬ (key.size : Int) < 1 := by omega
  have d2 : ¬ 64 < (key.size : Int) := by omega
  have d3 : ¬ 1000 < (val.size : Int) := by omega
  have HDD := Lib.hid hD
  obtain ⟨n, hn⟩ : ∃ n, n = l.length := ⟨_, rfl⟩
  have HN := Lib.hid hn
  rw [← hn] at h100 ⊢
  have d0 : ¬ 100 < (n : Int) := by omega
  have HKS := Lib.hid (And.intro hk1 (And.intro hk64 hv1000))
  clear hD hn hq
  have HX0 := Lib.hid (Blk.new W 23 (quB q1 q2 q3))
  have HB0 := Lib.hid ((But.refl (fun _ => False) W).alloc (.cells (quB q1 q2 q3) 23))
  go_enter Try.func3, Try.ntmps3
  go_wp2_with fail
  change Calls _ _ _ (W.alloc (.cells (quB q1 q2 q3) 23)) _
  refine (up_any _).mono ?_
  rintro e w1 ⟨rfl, hb1⟩
  obtain ⟨b4, hb4⟩ : ∃ b, b = W.heap.size := ⟨_, rfl⟩
  have HX1 := Lib.hid (HX0.out.but hb1 (fun h => h))
  rw [← hb4] at HX1 ⊢
  have HB1 := Lib.hid (HB0.out.trans hb1 (fun _ _ h => h))
  clear hb1 hb4
  have e0 : w1.cell? ⟨b4, 0, none⟩ = some (.int .i64 q1) := HX1.out.cell 0
  have e1 : w1.cell? ⟨b4, 1, none⟩ = some (.int .i64 q2) := HX1.out.cell 1
  have e2 : w1.cell? ⟨b4, 2, none⟩ = some (.int .i64 q3) := HX1.out.cell 2
  have HQ := Lib.hid (Rec.refQuota_any q1 q2 q3 w1)
  rw [show decide (Rec.inQ q1 ∧ Rec.inQ q2 ∧ Rec.inQ q3) = true from decide_eq_true HQI.out] at HQ
  go_wp2_with fail
  refine HQ.out.mono ?_
  rintro e w2 ⟨rfl, hw2⟩
  have hb2 : But (fun _ => False) w1 w2 := by rw [hw2]; exact (But.refl _ w1).alloc _
  have HX2 := Lib.hid (HX1.out.but hb2 (fun h => h))
  have HB2 := Lib.hid (HB1.out.trans hb2 (fun _ _ h => h))
  clear e0 e1 e2 hw2 hb2 HQ
  have e0 : w2.cell? ⟨b4, 0, none⟩ = some (.int .i64 q1) := HX2.out.cell 0
  have e1 : w2.cell? ⟨b4, 1, none⟩ = some (.int .i64 q2) := HX2.out.cell 1
  have e2 : w2.cell? ⟨b4, 2, none⟩ = some (.int .i64 q3) := HX2.out.cell 2
  go_wp2_with fail
  refine (new_any 5 2 q1 q2 q3 w2).mono ?_
  rintro e w3 ⟨s0, rfl, hm3, hf3, hb3⟩
  have hl3 : ∀ k, Foot s0 k → W.heap.size ≤ k := fun k hk => Nat.le_trans HB2.out.size (hf3 k hk)
  have HR3 := Lib.hid (run_new hm3 HQI.out hl3 (HB2.out.trans hb3 (fun _ _ h => h)))
  obtain ⟨p0, hp0⟩ : ∃ p, p = s0.p := ⟨_, rfl⟩
  rw [← hp0] at HR3 ⊢
  clear hm3 hf3 hb3 hl3 hp0 e0 e1 e2 d0 d1 d2 d3
  go_wp2_with fail
  go_loopw [11] (fun v wr => ∃ (k : Nat) (s : Bl) (B : Bk) (T : Tab) (m : List It), k ≤ n ∧ v = .int .i64 (k : Int) ∧ Run W wr p0 k s B T m) (fun v _ => n - (intOf v).toNat)
  case atStart => exact ⟨0, s0, _, _, _, Nat.zero_le _, rfl, HR3.out⟩
  case round =>
    obtain ⟨k, s, B, T, m, hk, rfl, hR⟩ := hrel
    have HR := Lib.hid hR
    by_cases hlt : k < n
    · have hki : (k : Int) < (n : Int) := by omega
      have hkl : k < l.length := by rw [← HN.out]; exact hlt
      obtain ⟨g, o, hag, _, _, hrr, hrs⟩ := HDD.out.get (wr := wr.drew) hR.but.drew hkl
      have hod := HDD.out.is_ l[k] (List.getElem_mem hkl)
      obtain ⟨d, hd⟩ : ∃ d, d = l[k] := ⟨_, rfl⟩
      rw [← hd] at hrr hrs hod
      have HRR := Lib.hid (And.intro hrr hrs)
      have HOD := Lib.hid hod
      subst hag
      have HRD := Lib.hid (hR.new ((But.refl (fun _ => False) wr).drew))
      clear hR hrr hrs hod hd
      go_wp2_with fail
      refine Late.region_goes (fun V => V = wr.drew) (fun j => j == 11) (by kernel_rfl) ?_ (fun hH => ?_)
      · rfl
      refine Late.Goes.takeT (i := 0) (v := ?_) (by simp only [List.getElem?_toArray, List.getElem?_cons_succ, List.getElem?_cons_zero]; rfl) (by kernel_rfl) (by kernel_rfl) (by kernel_rfl) (by kernel_rfl) (by kernel_rfl) (by exact fun _ _ _ h => h) (Or.inl ⟨by rfl, ?_⟩) hH ?_
      rotate_left
      · (intro wy hSw; (try dsimp only at hSw); subst hSw; go_simp; try (with_reducible rfl))
      try simp only [Act.put, List.setIfInBounds_toArray, List.set_cons_zero, List.set_cons_succ]
      refine Late.Goes.takeT (i := 1) (v := ?_) (by simp only [List.getElem?_toArray, List.getElem?_cons_succ, List.getElem?_cons_zero]; rfl) (by kernel_rfl) (by kernel_rfl) (by kernel_rfl) (by kernel_rfl) (by kernel_rfl) (by exact fun _ _ _ h => h) (Or.inl ⟨by rfl, ?_⟩) hH ?_
      rotate_left
      · (intro wy hSw; (try dsimp only at hSw); subst hSw; go_simp; try (with_reducible rfl))
      try simp only [Act.put, List.setIfInBounds_toArray, List.set_cons_zero, List.set_cons_succ]
      refine Late.Goes.takeT (i := 2) (v := ?_) (by simp only [List.getElem?_toArray, List.getElem?_cons_succ, List.getElem?_cons_zero]; rfl) (by kernel_rfl) (by kernel_rfl) (by kernel_rfl) (by kernel_rfl) (by kernel_rfl) (by exact fun _ _ _ h => h) (Or.inl ⟨by rfl, ?_⟩) hH ?_
      rotate_left
      · (intro wy hSw; (try dsimp only at hSw); subst hSw; go_simp; try (with_reducible rfl))
      try simp only [Act.put, List.setIfInBounds_toArray, List.set_cons_zero, List.set_cons_succ]
      refine Late.Goes.takeT (i := 3) (v := ?_) (by simp only [List.getElem?_toArray, List.getElem?_cons_succ, List.getElem?_cons_zero]; rfl) (by kernel_rfl) (by kernel_rfl) (by kernel_rfl) (by kernel_rfl) (by kernel_rfl) (by exact fun _ _ _ h => h) (Or.inl ⟨by rfl, ?_⟩) hH ?_
      rotate_left
      · (intro wy hSw; (try dsimp only at hSw); subst hSw; go_simp; try (with_reducible rfl))
      try simp only [Act.put, List.setIfInBounds_toArray, List.set_cons_zero, List.set_cons_succ]
      refine Late.Goes.takeT (i := 4) (v := ?_) (by simp only [List.getElem?_toArray, List.getElem?_cons_succ, List.getElem?_cons_zero]; rfl) (by kernel_rfl) (by kernel_rfl) (by kernel_rfl) (by kernel_rfl) (by kernel_rfl) (by exact fun _ _ _ h => h) (Or.inl ⟨by rfl, ?_⟩) hH ?_
      rotate_left
      · (intro wy hSw; (try dsimp only at hSw); subst hSw; go_simp; try (with_reducible rfl))
      try simp only [Act.put, List.setIfInBounds_toArray, List.set_cons_zero, List.set_cons_succ]
      refine Late.Goes.takeT (i := 5) (v := _) (by simp only [List.getElem?_toArray, List.getElem?_cons_succ, List.getElem?_cons_zero]; rfl) (by kernel_rfl) (by kernel_rfl) (by kernel_rfl) (by kernel_rfl) (by kernel_rfl) (by exact fun _ _ _ h => h) (yields_rec (by rfl) _ rfl g (o + k * 19 + 2) rfl d.r (fun V hV => by rw [hV]; exact HRR.out.1)) hH ?_
      try simp only [Act.put, List.setIfInBounds_toArray, List.set_cons_zero, List.set_cons_succ]
      refine Late.Goes.takeT (i := 6) (v := ?_) (by simp only [List.getElem?_toArray, List.getElem?_cons_succ, List.getElem?_cons_zero]; rfl) (by kernel_rfl) (by kernel_rfl) (by kernel_rfl) (by kernel_rfl) (by kernel_rfl) (by exact fun _ _ _ h => h) (Or.inl ⟨by rfl, ?_⟩) hH ?_
      rotate_left
      · (intro wy hSw; (try dsimp only at hSw); subst hSw; go_simp; try (with_reducible rfl))
      try simp only [Act.put, List.setIfInBounds_toArray, List.set_cons_zero, List.set_cons_succ]
      refine Late.Goes.takeT (i := 7) (v := ?_) (by simp only [List.getElem?_toArray, List.getElem?_cons_succ, List.getElem?_cons_zero]; rfl) (by kernel_rfl) (by kernel_rfl) (by kernel_rfl) (by kernel_rfl) (by kernel_rfl) (by exact fun _ _ _ h => h) (Or.inl ⟨by rfl, ?_⟩) hH ?_
      rotate_left
      · (intro wy hSw; (try dsimp only at hSw); subst hSw; go_simp; try (with_reducible rfl))
      try simp only [Act.put, List.setIfInBounds_toArray, List.set_cons_zero, List.set_cons_succ]
      refine Late.Goes.takeT (i := 8) (v := ?_) (by simp only [List.getElem?_toArray, List.getElem?_cons_succ, List.getElem?_cons_zero]; rfl) (by kernel_rfl) (by kernel_rfl) (by kernel_rfl) (by kernel_rfl) (by kernel_rfl) (by exact fun _ _ _ h => h) (Or.inl ⟨by rfl, ?_⟩) hH ?_
      rotate_left
      · (intro wy hSw; (try dsimp only at hSw); subst hSw; go_simp; try (with_reducible rfl))
      try simp only [Act.put, List.setIfInBounds_toArray, List.set_cons_zero, List.set_cons_succ]
      refine Late.Goes.takeT (i := 9) (v := ?_) (by simp only [List.getElem?_toArray, List.getElem?_cons_succ, List.getElem?_cons_zero]; rfl) (by kernel_rfl) (by kernel_rfl) (by kernel_rfl) (by kernel_rfl) (by kernel_rfl) (by exact fun _ _ _ h => h) (Or.inl ⟨by rfl, ?_⟩) hH ?_
      rotate_left
      · (intro wy hSw; (try dsimp only at hSw); subst hSw; go_simp; try (with_reducible rfl))
      try simp only [Act.put, List.setIfInBounds_toArray, List.set_cons_zero, List.set_cons_succ]
      refine Late.Goes.takeT (i := 10) (v := _) (by simp only [List.getElem?_toArray, List.getElem?_cons_succ, List.getElem?_cons_zero]; rfl) (by kernel_rfl) (by kernel_rfl) (by kernel_rfl) (by kernel_rfl) (by kernel_rfl) (by exact fun _ _ _ h => h) (yields_spot (by rfl) _ rfl g (o + k * 19 + 16) rfl d.p (fun V hV => by rw [hV]; exact HRR.out.2)) hH ?_
      try simp only [Act.put, List.setIfInBounds_toArray, List.set_cons_zero, List.set_cons_succ]
      refine Late.Goes.one (i := 11) (by kernel_rfl) (by simp only [List.getElem?_toArray, List.getElem?_cons_succ, List.getElem?_cons_zero]; rfl) (fun K hK => ?_)
      clear hH
      go_simp
      go_at_call 7
      refine (HRD.out.apply (by omega) d.r HOD.out.r d.p HOD.out.p).mono ?_
      rintro e w4 ⟨rfl, s', m', hr4⟩
      have HR4 := Lib.hid hr4
      clear hr4
      refine hK.out _ _ ?_ (fun _ => ?_)
      · exact fun h => by cases h
      clear hK K
      try simp only [Act.put, List.setIfInBounds_toArray, List.set_cons_zero, List.set_cons_succ]
      refine Late.Goes.done (by kernel_rfl) ?_ _
      go_wp2_with fail
      go_roundw
      case rel => exact ⟨k + 1, _, _, _, _, by omega, by go_num, HR4.out⟩
      case measure => simp [intOf]; omega
    · have hkn : k = n := by omega
      subst hkn
      clear hR
      have hget := get_any HR.out.bm key (by have := HKS.out.2.1; omega)
      rw [HR.out.p] at hget
      have HG := Lib.hid hget
      clear hget
      obtain ⟨f, hf⟩ : ∃ f, f = Key.ask T key := ⟨_, rfl⟩
      rw [← hf] at HG
      have HF := Lib.hid hf
      clear hf
      go_wp2_with fail
      refine HG.out.mono ?_
      rintro e w5 ⟨rfl, hb5⟩
      have HY0 := Lib.hid (Blk.new w5 39 (entB Key.zero))
      have HY1 := Lib.hid ((But.refl (fun _ => False) w5).alloc (.cells (entB Key.zero) 39))
      obtain ⟨b6, hb6⟩ : ∃ b, b = w5.heap.size := ⟨_, rfl⟩
      have HYT := Lib.hid (blk_there0 (n := 7) HY0.out (by rfl))
      rw [← hb6] at HY0 HYT
      have HYX := Lib.hid (And.intro (blk_set0 (vs := Key.ecells (Key.ent (f))) HY0.out (by rw [Key.ecells_length]; rfl)) (HY1.out.trans (but_setCells b6 (Key.ecells (Key.ent (f))) 0 (w5.alloc (.cells (entB Key.zero) 39))) (fun j hj e => by omega)))
      obtain ⟨W6, hW6⟩ : ∃ W, W = (w5.alloc (.cells (entB Key.zero) 39)).setCells b6 0 (Key.ecells (Key.ent (f))) := ⟨_, rfl⟩
      rw [← hW6] at HYX
      have HYE := Lib.hid hW6
      have HYS := Lib.hid hb6
      clear hW6 hb6 HY0 HY1
      have HR6 := Lib.hid ((HR.out.new hb5).new HYX.out.2)
      clear hb5 HG
      have hky := keys_any HR6.out.bm
      rw [HR6.out.p] at hky
      have HKY := Lib.hid hky
      clear hky
      obtain ⟨ct, hct⟩ : ∃ ct, ct = Key.cnt T := ⟨_, rfl⟩
      rw [← hct] at HKY
      have HCT := Lib.hid hct
      clear hct
      go_wp2_with (rw [← HYS.out]; refine wpList_store_mid rfl 39 _ _ rfl b6 0 (Key.ecells (Key.ent (f))).toArray rfl rfl (by simp only [List.size_toArray, Key.ecells_length]; exact HYT.out) (by simp only [List.size_toArray, Key.ecells_length]; exact Key.entry_size) (all_oneCell_toArray (Key.ecells_one _)) ?_; change wpList _ _ _ _ _ ((w5.alloc (.cells (entB Key.zero) 39)).setCells b6 0 (Key.ecells (Key.ent (f)))); rw [← HYE.out])
      refine HKY.out.mono ?_
      rintro e w7 ⟨rfl, hb7⟩
      have HR7 := Lib.hid (HR6.out.new hb7)
      have hby := bytes_any HR7.out.bm
      have hch := charged_any HR7.out.bm
      rw [HR7.out.p] at hby hch
      have HBY := Lib.hid hby
      have HCH := Lib.hid hch
      clear hb7 hby hch
      obtain ⟨z, hz⟩ : ∃ z, z = B.bytes := ⟨_, rfl⟩
      rw [← hz] at HBY
      have HZ := Lib.hid hz
      obtain ⟨y, hy⟩ : ∃ y, y = B.charged := ⟨_, rfl⟩
      rw [← hy] at HCH
      have HY := Lib.hid hy
      clear hz hy
      go_wp2_with fail
      refine HBY.out.mono ?_
      rintro e w' ⟨rfl, hw⟩
      subst hw
      go_wp2_with fail
      refine HCH.out.mono ?_
      rintro e w' ⟨rfl, hw⟩
      subst hw
      cases f with
      | some f =>
        go_wp2_with fail
        have HRX := HR7
        have hown0 : QIn 0 0 0 := by unfold QIn Rec.inQ; omega
        refine (new_any 5 2 0 0 0 w7).mono ?_
        rintro e wA ⟨sc, rfl, hmA, hfA, hbA⟩
        have HB0 := Lib.hid (HRX.out.new hbA)
        have HC0 := Lib.hid (run_new hmA hown0 hfA hbA)
        obtain ⟨pc, hpc⟩ : ∃ p, p = sc.p := ⟨_, rfl⟩
        rw [← hpc] at HC0 ⊢
        clear hmA hfA hbA hpc hown0
        have hmeta := meta_any HB0.out.bm
        rw [HB0.out.p] at hmeta
        have HMT := Lib.hid hmeta
        clear hmeta
        go_wp2_with fail
        refine HMT.out.mono ?_
        rintro e wB ⟨rfl, hbB⟩
        have HC1 := Lib.hid (HC0.out.new hbB)
        have hown : Own (newB 5 2 0 0 0) (metaR B) := ⟨may_meta (by rw [HRX.out.id]; omega) (by rw [HRX.out.gen]; omega) HRX.out.q, HRX.out.id, HRX.out.gen⟩
        have HAP := Lib.hid (app_meta (T := noT) (p := (((0 : Nat) : Int), ((0 : Nat) : Int), ((0 : Nat) : Int))) hown rfl)
        have hcal := HC1.out.apply (by omega) (metaR B) (meta_is HRX.out.ok) (((0 : Nat) : Int), ((0 : Nat) : Int), ((0 : Nat) : Int)) (sp_small (by omega) (by omega) (by omega))
        rw [HAP.out.2] at hcal
        have HCAL := Lib.hid hcal
        clear hcal hown hbB HMT
        go_wp2_with fail
        refine HCAL.out.mono ?_
        rintro e wC ⟨rfl, s2, m2, hrC⟩
        obtain ⟨C2, hC2⟩ : ∃ x, x = app (newB 5 2 0 0 0) noT (metaR B) (((0 : Nat) : Int), ((0 : Nat) : Int), ((0 : Nat) : Int)) := ⟨_, rfl⟩
        rw [← hC2] at hrC HAP
        have HC2 := Lib.hid hrC
        have HQ2 := Lib.hid (show C2.toks = [] ∧ C2.q1 = B.q1 ∧ C2.q2 = B.q2 ∧ C2.q3 = B.q3 ∧ C2.seq = B.seq from by rw [HAP.out.1]; exact ⟨rfl, rfl, rfl, rfl, rfl⟩)
        have hbC := HRX.out.new hrC.but
        have htk := tokens_any hbC.bm hbC.ok
        rw [hbC.p, HRX.out.id, HRX.out.gen] at htk
        have HTK := Lib.hid htk
        have HTG := Lib.hid (show Rgt.Good B.toks from hbC.bm.tok.good)
        obtain ⟨nt, hnt⟩ : ∃ x, x = B.toks.length := ⟨_, rfl⟩
        rw [← hnt] at HTK
        have hnt100 : nt ≤ 100 := by rw [hnt]; exact HTG.out.len
        have HNT := Lib.hid hnt
        clear hC2 hrC hbC htk HCAL hnt
        go_wp2_with fail
        refine HTK.out.mono ?_
        rintro e wD ⟨a2, c2', rfl, hrec, hgb, hbD⟩
        have HST := Lib.hid (show Run w7 wD pc (1 + 0) s2 C2 noT m2 ∧ C2.toks = B.toks.take 0 ∧ (C2.q1 = B.q1 ∧ C2.q2 = B.q2 ∧ C2.q3 = B.q3 ∧ C2.seq = B.seq) ∧ Rec.Recs wD a2 (B.toks.map (tokR 5 2)) ∧ (∀ b off, a2 = some ⟨b, off, none⟩ → 0 < nt → b < wD.heap.size ∧ ∀ k, Foot s2 k → k ≠ b) from ⟨HC2.out.new hbD, by rw [HQ2.out.1]; rfl, HQ2.out.2, hrec, fun b off ha h0 => by
          have h1 := hgb b off ha h0
          obtain ⟨b', off', ha', hlt', _⟩ := hrec.2 (by rw [List.length_map, ← HNT.out]; exact h0)
          rw [ha] at ha'
          injection ha' with ha'
          injection ha' with ha1 ha2
          refine ⟨by omega, fun k hk e => ?_⟩
          have := HC2.out.bm.lt k hk
          omega⟩)
        clear hrec hgb hbD HTK
        go_wp2_with fail
        go_loopw [25] (fun v wr => ∃ (j : Nat) (s : Bl) (C : Bk) (m : List It), j ≤ nt ∧ v = .int .i64 (j : Int) ∧ Run w7 wr pc (1 + j) s C noT m ∧ C.toks = B.toks.take j ∧ (C.q1 = B.q1 ∧ C.q2 = B.q2 ∧ C.q3 = B.q3 ∧ C.seq = B.seq) ∧ Rec.Recs wr a2 (B.toks.map (tokR 5 2)) ∧ (∀ b off, a2 = some ⟨b, off, none⟩ → 0 < nt → b < wr.heap.size ∧ ∀ k, Foot s k → k ≠ b)) (fun v _ => nt - (intOf v).toNat)
        case atStart => exact ⟨0, s2, C2, m2, Nat.zero_le _, rfl, HST.out⟩
        case round =>
          obtain ⟨j, s5, C5, m5, hj, rfl, hR5, htk5, hq5, hrec5, hfo5⟩ := hrel
          have HR5 := Lib.hid hR5
          have HT5 := Lib.hid (And.intro htk5 hq5)
          have HE5 := Lib.hid hrec5
          have HF5 := Lib.hid hfo5
          clear hR5 htk5 hq5 hrec5 hfo5
          by_cases hlt : j < nt
          · have hji : (j : Int) < (nt : Int) := by omega
            have hjT : j < B.toks.length := by rw [← HNT.out]; exact hlt
            have hjL : j < (B.toks.map (tokR 5 2)).length := by rw [List.length_map]; exact hjT
            obtain ⟨g, off, ha2, hglt, hce⟩ := HE5.out.2 (by omega)
            have hck := hce j hjL
            have hri := HE5.out.1 _ (List.getElem_mem hjL)
            obtain ⟨r, hr⟩ : ∃ r, r = (B.toks.map (tokR 5 2))[j] := ⟨_, rfl⟩
            have hrx : r = tokR 5 2 (B.toks[j]) := by rw [hr, List.getElem_map]
            rw [← hr] at hck hri
            have HRX2 := Lib.hid (And.intro hrx hri)
            obtain ⟨e0, e1, e2, e3, e4, e5, e6, e7, e8, e9, e10, e11, e12, e13⟩ := Rec.cells_at hck
            subst ha2
            have hfo := HF5.out g off rfl (by omega)
            have HFO := Lib.hid hfo
            have hcal := HR5.out.apply2 (by omega) r hri (((0 : Nat) : Int), ((0 : Nat) : Int), ((0 : Nat) : Int)) (sp_small (by omega) (by omega) (by omega))
            have HCAL := Lib.hid hcal
            have HNX := Lib.hid (show (app C5 noT r (((0 : Nat) : Int), ((0 : Nat) : Int), ((0 : Nat) : Int))).toks = B.toks.take (j + 1) ∧ ((app C5 noT r (((0 : Nat) : Int), ((0 : Nat) : Int), ((0 : Nat) : Int))).q1 = B.q1 ∧ (app C5 noT r (((0 : Nat) : Int), ((0 : Nat) : Int), ((0 : Nat) : Int))).q2 = B.q2 ∧ (app C5 noT r (((0 : Nat) : Int), ((0 : Nat) : Int), ((0 : Nat) : Int))).q3 = B.q3 ∧ (app C5 noT r (((0 : Nat) : Int), ((0 : Nat) : Int), ((0 : Nat) : Int))).seq = B.seq) ∧ appT C5 noT r (((0 : Nat) : Int), ((0 : Nat) : Int), ((0 : Nat) : Int)) = noT from by
              have hown : Own C5 r := by
                rw [hrx]
                exact ⟨may_tok (by omega) (by omega) (HTG.out.ok _ (List.getElem_mem hjT)), HR5.out.id.symm, HR5.out.gen.symm⟩
              have hpe : Rgt.putErr r.serial r.rights C5.toks = 0 := by
                rw [hrx, HT5.out.1]
                exact look_take_none HTG.out hjT
              have hap := app_tok (T := noT) (p := (((0 : Nat) : Int), ((0 : Nat) : Int), ((0 : Nat) : Int))) hown (by rw [hrx]; rfl) hpe
              rw [hap.1, hap.2]
              refine ⟨?_, HT5.out.2, rfl⟩
              show Rgt.put (tokOf r) C5.toks = _
              rw [hrx, HT5.out.1]
              exact put_take HTG.out.ris hjT)
            rw [HNX.out.2.2] at HCAL
            clear hck hri hr hrx hce hcal hfo
            go_wp2_with fail
            refine HCAL.out.mono ?_
            rintro e w6x ⟨rfl, s6, m6, hr6, hs6⟩
            have HEND := Lib.hid (show Run w7 w6x pc (1 + (j + 1)) s6 (app C5 noT r (((0 : Nat) : Int), ((0 : Nat) : Int), ((0 : Nat) : Int))) noT m6 ∧ Rec.Recs w6x (some ⟨g, off, none⟩) (B.toks.map (tokR 5 2)) ∧ (∀ b o', (some ⟨g, off, none⟩ : Option Addr) = some ⟨b, o', none⟩ → 0 < nt → b < w6x.heap.size ∧ ∀ k, Foot s6 k → k ≠ b) from ⟨by rw [← Nat.add_assoc]; exact hr6, HE5.out.but hs6.but (fun p hp hf => by
                injection hp with hp
                rw [← hp] at hf
                exact HFO.out.2 g hf rfl), fun b o' hb h0 => by
                injection hb with hb
                injection hb with hb1 hb2
                rw [← hb1]
                have h1 := HFO.out.1
                refine ⟨Nat.lt_of_lt_of_le h1 hs6.but.size, fun k hk e => ?_⟩
                rcases hs6.new k hk with h2 | h2
                · exact HFO.out.2 k h2 e
                · omega⟩)
            clear hr6 hs6 HCAL e0 e1 e2 e3 e4 e5 e6 e7 e8 e9 e10 e11 e12 e13
            go_wp2_with fail
            go_roundw
            case rel => exact ⟨j + 1, s6, _, m6, by omega, by go_num, HEND.out.1, HNX.out.1, HNX.out.2.1, HEND.out.2⟩
            case measure => simp [intOf]; omega
          · have hjn : j = nt := by omega
            subst hjn
            have HTS := Lib.hid (show C5.toks = B.toks from by rw [HT5.out.1, HNT.out, List.take_length])
            have HMC := Lib.hid (show ∀ V, But (fun _ => False) wr V → Calls Try.prog 12 #[.pointer (some ⟨pc, 0, none⟩)] V fun e w' => e = .returned (.agg #[.int .i64 1, .int .i64 C5.id, .int .u32 (C5.gen : Int), .int .i64 B.q1, .int .i64 B.q2, .int .i64 B.q3, .int .u64 (B.seq : Int), .int .u32 (C5.serial : Int), .int .i64 0, .int .u64 0, .string Rec.nothing, .string Rec.nothing, .int .u64 0, .int .u64 0]) ∧ But (fun _ => False) V w' from fun V hV => by
              have h := meta_any (HR5.out.new hV).bm
              rw [HR5.out.p] at h
              obtain ⟨h1, h2, h3, h4⟩ := HT5.out.2
              rw [← h1, ← h2, ← h3, ← h4]
              exact h)
            have HMB := Lib.hid (show ∀ V, But (fun _ => False) wr V → Calls Try.prog 12 #[.pointer (some ⟨p0, 0, none⟩)] V fun e w' => e = .returned (.agg #[.int .i64 1, .int .i64 B.id, .int .u32 (B.gen : Int), .int .i64 B.q1, .int .i64 B.q2, .int .i64 B.q3, .int .u64 (B.seq : Int), .int .u32 (B.serial : Int), .int .i64 0, .int .u64 0, .string Rec.nothing, .string Rec.nothing, .int .u64 0, .int .u64 0]) ∧ But (fun _ => False) V w' from fun V hV => by
              have h := meta_any ((HRX.out.new HR5.out.but).new hV).bm
              rw [HRX.out.p] at h
              exact h)
            have HTC := Lib.hid (show ∀ V, But (fun _ => False) wr V → Calls Try.prog 13 #[.pointer (some ⟨pc, 0, none⟩)] V fun e w' => ∃ a c, e = .returned (.slice a j c) ∧ Rec.Recs w' a (B.toks.map (tokR 5 2)) ∧ But (fun _ => False) V w' from fun V hV => by
              have h := tokens_any (HR5.out.new hV).bm HR5.out.ok
              rw [HR5.out.p, HR5.out.id, HR5.out.gen, HTS.out, ← HNT.out] at h
              exact h.mono (fun e w' ⟨a, c, h1, h2, _, h3⟩ => ⟨a, c, h1, h2, h3⟩))
            have fs := field_seq
            have fq := field_quota
            have ql := quota_eql B.q1 B.q2 B.q3
            go_wp2_with fail
            refine (HMC.out _ (But.refl _ _)).mono ?_
            rintro e v1 ⟨rfl, hv1⟩
            have HV1 := Lib.hid hv1
            clear hv1
            go_wp2_with fail
            refine (HMB.out _ HV1.out).mono ?_
            rintro e v2 ⟨rfl, hv2⟩
            have HV2 := Lib.hid (HV1.out.trans hv2 (fun _ _ h => h))
            clear hv2
            go_wp2_with fail
            refine (HMC.out _ HV2.out).mono ?_
            rintro e v3 ⟨rfl, hv3⟩
            have HV3 := Lib.hid (HV2.out.trans hv3 (fun _ _ h => h))
            clear hv3
            go_wp2_with fail
            refine (HMB.out _ HV3.out).mono ?_
            rintro e v4 ⟨rfl, hv4⟩
            have HV4 := Lib.hid (HV3.out.trans hv4 (fun _ _ h => h))
            clear hv4
            go_wp2_with fail
            refine (HTC.out _ HV4.out).mono ?_
            rintro e v5 ⟨a5, c5, rfl, hre5, hv5⟩
            have HV5 := Lib.hid (HV4.out.trans hv5 (fun _ _ h => h))
            have hsame := fun cap cap' => Rec.same_yes a5 a2 cap cap' (B.toks.map (tokR 5 2)) v5 hre5 (HE5.out.below HV5.out.new) (by rw [List.length_map, ← HNT.out]; omega)
            rw [List.length_map, ← HNT.out] at hsame
            have HSM := Lib.hid hsame
            clear hsame hre5 hv5
            go_wp2_with fail
            refine (HSM.out _ _).mono ?_
            rintro e v6 ⟨rfl, nq, rfl⟩
            have HFI := Lib.hid (show But (fun _ => False) W (v5.drewN nq) from (HRX.out.but.trans (HR5.out.but.trans HV5.out (fun _ _ h => h)) (fun _ _ h => h)).drewN nq)
            clear fs fq ql
            go_wp2_with fail
            go_ret
            exact ⟨rfl, HFI.out⟩
      | none =>
        go_wp2_with fail
        have hown : Own B (putR 5 2 key val 9 0) := ⟨may_put (by omega) (by omega) ⟨HKS.out.1, HKS.out.2.1⟩ HKS.out.2.2, HR7.out.id.symm, HR7.out.gen.symm⟩
        have HAP := Lib.hid (app_put (T := T) (p := (((0 : Nat) : Int), ((0 : Nat) : Int), ((0 : Nat) : Int))) hown rfl)
        have hcal := HR7.out.apply (by omega) (putR 5 2 key val 9 0) (is_put (by omega) (by omega) HKS.out.2.1 HKS.out.2.2 (by omega) (by omega)) (((0 : Nat) : Int), ((0 : Nat) : Int), ((0 : Nat) : Int)) (sp_small (by omega) (by omega) (by omega))
        rw [HAP.out.1, HAP.out.2.2] at hcal
        have HCAL := Lib.hid hcal
        have HC1 := Lib.hid (cost_le hown.1)
        clear hown hcal
        refine HCAL.out.mono ?_
        rintro e w8 ⟨rfl, s8, m8, hr8⟩
        obtain ⟨B8, hB8⟩ : ∃ b, b = app B T (putR 5 2 key val 9 0) (((0 : Nat) : Int), ((0 : Nat) : Int), ((0 : Nat) : Int)) := ⟨_, rfl⟩
        rw [← hB8] at hr8 HAP
        obtain ⟨T8, hT8⟩ : ∃ t, t = Key.put T (entOf (putR 5 2 key val 9 0) (((0 : Nat) : Int), ((0 : Nat) : Int), ((0 : Nat) : Int))) := ⟨_, rfl⟩
        rw [← hT8] at hr8
        have HT8 := Lib.hid (show Key.ask T8 key = some (entOf (putR 5 2 key val 9 0) (((0 : Nat) : Int), ((0 : Nat) : Int), ((0 : Nat) : Int))) ∧ Key.cnt T8 = ct + 1 ∧ B8.charged = y + Rec.costOf (putR 5 2 key val 9 0) ∧ tot (all T8) = z + of (entOf (putR 5 2 key val 9 0) (((0 : Nat) : Int), ((0 : Nat) : Int), ((0 : Nat) : Int))) from by
          have hg := HR7.out.bm.key.good
          have hk : (entOf (putR 5 2 key val 9 0) (((0 : Nat) : Int), ((0 : Nat) : Int), ((0 : Nat) : Int))).key = key := rfl
          refine ⟨?_, ?_, ?_, ?_⟩
          · rw [hT8, Key.ask_put hg, hk, if_pos rfl]
          · rw [hT8, Key.cnt_put hg, hk, ← HF.out, ← HCT.out]; rfl
          · rw [HAP.out.2.1, HY.out]
          · rw [hT8, tot_put hg, hk, ← HF.out, HZ.out, HR7.out.ok.bytes]
            show _ + (_ - of Key.zero) = _
            rw [of_zero]
            omega)
        have HR8 := Lib.hid hr8
        have hget := get_any hr8.bm key (by have := HKS.out.2.1; omega)
        rw [hr8.p, HT8.out.1] at hget
        have HG := Lib.hid hget
        clear hget hr8 hB8 hT8 HCAL
        obtain ⟨en, hen⟩ : ∃ en, en = entOf (putR 5 2 key val 9 0) (((0 : Nat) : Int), ((0 : Nat) : Int), ((0 : Nat) : Int)) := ⟨_, rfl⟩
        rw [← hen] at HG HT8
        clear hen
        go_wp2_with fail
        refine HG.out.mono ?_
        rintro e w9 ⟨rfl, hb9⟩
        have HV0 := Lib.hid (Blk.new w9 39 (entB Key.zero))
        have HV1 := Lib.hid ((But.refl (fun _ => False) w9).alloc (.cells (entB Key.zero) 39))
        obtain ⟨b10, hb10⟩ : ∃ b, b = w9.heap.size := ⟨_, rfl⟩
        have HVT := Lib.hid (blk_there0 (n := 7) HV0.out (by rfl))
        rw [← hb10] at HV0 HVT
        have HVX := Lib.hid (And.intro (blk_set0 (vs := Key.ecells (Key.ent (some en))) HV0.out (by rw [Key.ecells_length]; rfl)) (HV1.out.trans (but_setCells b10 (Key.ecells (Key.ent (some en))) 0 (w9.alloc (.cells (entB Key.zero) 39))) (fun j hj e => by omega)))
        obtain ⟨W10, hW10⟩ : ∃ W, W = (w9.alloc (.cells (entB Key.zero) 39)).setCells b10 0 (Key.ecells (Key.ent (some en))) := ⟨_, rfl⟩
        rw [← hW10] at HVX
        have HVE := Lib.hid hW10
        have HVS := Lib.hid hb10
        clear hW10 hb10 HV0 HV1
        have HR10 := Lib.hid ((HR8.out.new hb9).new HVX.out.2)
        clear hb9 HG
        have hown : Own B8 (delR 5 2 key 10) := ⟨may_del (by omega) (by omega) ⟨HKS.out.1, HKS.out.2.1⟩, HR10.out.id.symm, HR10.out.gen.symm⟩
        have HAD := Lib.hid (app_del (T := T8) (p := (((0 : Nat) : Int), ((0 : Nat) : Int), ((0 : Nat) : Int))) hown rfl)
        have hcal := HR10.out.apply (by omega) (delR 5 2 key 10) (is_del (by omega) (by omega) HKS.out.2.1 (by omega)) (((0 : Nat) : Int), ((0 : Nat) : Int), ((0 : Nat) : Int)) (sp_small (by omega) (by omega) (by omega))
        rw [HAD.out.1, HAD.out.2.2] at hcal
        have HCAL := Lib.hid hcal
        have HC2 := Lib.hid (cost_le hown.1)
        clear hown hcal
        go_wp2_with (rw [← HVS.out]; refine wpList_store_mid rfl 39 _ _ rfl b10 0 (Key.ecells (Key.ent (some en))).toArray rfl rfl (by simp only [List.size_toArray, Key.ecells_length]; exact HVT.out) (by simp only [List.size_toArray, Key.ecells_length]; exact Key.entry_size) (all_oneCell_toArray (Key.ecells_one _)) ?_; change wpList _ _ _ _ _ ((w9.alloc (.cells (entB Key.zero) 39)).setCells b10 0 (Key.ecells (Key.ent (some en)))); rw [← HVE.out])
        refine HCAL.out.mono ?_
        rintro e w11 ⟨rfl, s11, m11, hr11⟩
        obtain ⟨B11, hB11⟩ : ∃ b, b = app B8 T8 (delR 5 2 key 10) (((0 : Nat) : Int), ((0 : Nat) : Int), ((0 : Nat) : Int)) := ⟨_, rfl⟩
        rw [← hB11] at hr11 HAD
        obtain ⟨T11, hT11⟩ : ∃ t, t = Key.del T8 key := ⟨_, rfl⟩
        rw [show (delR 5 2 key 10).key = key from rfl, ← hT11] at hr11
        have HT11 := Lib.hid (show Key.ask T11 key = none ∧ Key.cnt T11 = ct ∧ B11.charged = y + Rec.costOf (putR 5 2 key val 9 0) + Rec.costOf (delR 5 2 key 10) ∧ B11.bytes = z from by
          have hg := HR10.out.bm.key.good
          refine ⟨?_, ?_, ?_, ?_⟩
          · rw [hT11, Key.ask_del hg, if_pos rfl]
          · have h1 := Key.cnt_del hg key
            rw [← hT11, HT8.out.1, HT8.out.2.1] at h1
            simpa using h1
          · rw [HAD.out.2.1, HT8.out.2.2.1]
          · rw [HAD.out.2.1]
            show tot (all (Key.del T8 key)) = z
            rw [tot_del hg, HT8.out.1, HT8.out.2.2.2]
            show z + of en - of en = z
            omega)
        have HR11 := Lib.hid hr11
        have hget := get_any hr11.bm key (by have := HKS.out.2.1; omega)
        rw [hr11.p, HT11.out.1] at hget
        have HG := Lib.hid hget
        clear hget hr11 hB11 hT11 HCAL
        go_wp2_with fail
        refine HG.out.mono ?_
        rintro e w12 ⟨rfl, hb12⟩
        have HU0 := Lib.hid (Blk.new w12 39 (entB Key.zero))
        have HU1 := Lib.hid ((But.refl (fun _ => False) w12).alloc (.cells (entB Key.zero) 39))
        obtain ⟨b13, hb13⟩ : ∃ b, b = w12.heap.size := ⟨_, rfl⟩
        have HUT := Lib.hid (blk_there0 (n := 7) HU0.out (by rfl))
        rw [← hb13] at HU0 HUT
        have HUX := Lib.hid (And.intro (blk_set0 (vs := Key.ecells (Key.ent (none))) HU0.out (by rw [Key.ecells_length]; rfl)) (HU1.out.trans (but_setCells b13 (Key.ecells (Key.ent (none))) 0 (w12.alloc (.cells (entB Key.zero) 39))) (fun j hj e => by omega)))
        obtain ⟨W13, hW13⟩ : ∃ W, W = (w12.alloc (.cells (entB Key.zero) 39)).setCells b13 0 (Key.ecells (Key.ent (none))) := ⟨_, rfl⟩
        rw [← hW13] at HUX
        have HUE := Lib.hid hW13
        have HUS := Lib.hid hb13
        clear hW13 hb13 HU0 HU1
        have HR13 := Lib.hid ((HR11.out.new hb12).new HUX.out.2)
        clear hb12 HG
        have hky := keys_any HR13.out.bm
        rw [HR13.out.p, HT11.out.2.1] at hky
        have HKY := Lib.hid hky
        clear hky
        go_wp2_with (rw [← HUS.out]; refine wpList_store_mid rfl 39 _ _ rfl b13 0 (Key.ecells (Key.ent (none))).toArray rfl rfl (by simp only [List.size_toArray, Key.ecells_length]; exact HUT.out) (by simp only [List.size_toArray, Key.ecells_length]; exact Key.entry_size) (all_oneCell_toArray (Key.ecells_one _)) ?_; change wpList _ _ _ _ _ ((w12.alloc (.cells (entB Key.zero) 39)).setCells b13 0 (Key.ecells (Key.ent (none)))); rw [← HUE.out])
        refine HKY.out.mono ?_
        rintro e w14 ⟨rfl, hb14⟩
        have HR14 := Lib.hid (HR13.out.new hb14)
        have hby := bytes_any HR14.out.bm
        have hch := charged_any HR14.out.bm
        rw [HR14.out.p] at hby hch
        rw [HT11.out.2.2.2] at hby
        rw [HT11.out.2.2.1] at hch
        have HBY := Lib.hid hby
        have HCH := Lib.hid hch
        clear hb14 hby hch
        obtain ⟨c1, hc1⟩ : ∃ x, x = Rec.costOf (putR 5 2 key val 9 0) := ⟨_, rfl⟩
        obtain ⟨c2, hc2⟩ : ∃ x, x = Rec.costOf (delR 5 2 key 10) := ⟨_, rfl⟩
        rw [← hc1] at HC1 HCH
        rw [← hc2] at HC2 HCH
        clear hc1 hc2
        go_wp2_with fail
        refine HBY.out.mono ?_
        rintro e w' ⟨rfl, hw⟩
        subst hw
        go_wp2_with fail
        refine HCH.out.mono ?_
        rintro e w' ⟨rfl, hw⟩
        subst hw
        have hle : ¬ (y + c1 + c2 ≤ y) := by have := HC1.out; have := HC2.out; omega
        go_wp2_with fail
        clear hle
        have HRX := HR14
        have hown0 : QIn 0 0 0 := by unfold QIn Rec.inQ; omega
        refine (new_any 5 2 0 0 0 w14).mono ?_
        rintro e wA ⟨sc, rfl, hmA, hfA, hbA⟩
        have HB0 := Lib.hid (HRX.out.new hbA)
        have HC0 := Lib.hid (run_new hmA hown0 hfA hbA)
        obtain ⟨pc, hpc⟩ : ∃ p, p = sc.p := ⟨_, rfl⟩
        rw [← hpc] at HC0 ⊢
        clear hmA hfA hbA hpc hown0
        have hmeta := meta_any HB0.out.bm
        rw [HB0.out.p] at hmeta
        have HMT := Lib.hid hmeta
        clear hmeta
        go_wp2_with fail
        refine HMT.out.mono ?_
        rintro e wB ⟨rfl, hbB⟩
        have HC1 := Lib.hid (HC0.out.new hbB)
        have hown : Own (newB 5 2 0 0 0) (metaR B11) := ⟨may_meta (by rw [HRX.out.id]; omega) (by rw [HRX.out.gen]; omega) HRX.out.q, HRX.out.id, HRX.out.gen⟩
        have HAP := Lib.hid (app_meta (T := noT) (p := (((0 : Nat) : Int), ((0 : Nat) : Int), ((0 : Nat) : Int))) hown rfl)
        have hcal := HC1.out.apply (by omega) (metaR B11) (meta_is HRX.out.ok) (((0 : Nat) : Int), ((0 : Nat) : Int), ((0 : Nat) : Int)) (sp_small (by omega) (by omega) (by omega))
        rw [HAP.out.2] at hcal
        have HCAL := Lib.hid hcal
        clear hcal hown hbB HMT
        go_wp2_with fail
        refine HCAL.out.mono ?_
        rintro e wC ⟨rfl, s2, m2, hrC⟩
        obtain ⟨C2, hC2⟩ : ∃ x, x = app (newB 5 2 0 0 0) noT (metaR B11) (((0 : Nat) : Int), ((0 : Nat) : Int), ((0 : Nat) : Int)) := ⟨_, rfl⟩
        rw [← hC2] at hrC HAP
        have HC2 := Lib.hid hrC
        have HQ2 := Lib.hid (show C2.toks = [] ∧ C2.q1 = B11.q1 ∧ C2.q2 = B11.q2 ∧ C2.q3 = B11.q3 ∧ C2.seq = B11.seq from by rw [HAP.out.1]; exact ⟨rfl, rfl, rfl, rfl, rfl⟩)
        have hbC := HRX.out.new hrC.but
        have htk := tokens_any hbC.bm hbC.ok
        rw [hbC.p, HRX.out.id, HRX.out.gen] at htk
        have HTK := Lib.hid htk
        have HTG := Lib.hid (show Rgt.Good B11.toks from hbC.bm.tok.good)
        obtain ⟨nt, hnt⟩ : ∃ x, x = B11.toks.length := ⟨_, rfl⟩
        rw [← hnt] at HTK
        have hnt100 : nt ≤ 100 := by rw [hnt]; exact HTG.out.len
        have HNT := Lib.hid hnt
        clear hC2 hrC hbC htk HCAL hnt
        go_wp2_with fail
        refine HTK.out.mono ?_
        rintro e wD ⟨a2, c2', rfl, hrec, hgb, hbD⟩
        have HST := Lib.hid (show Run w14 wD pc (1 + 0) s2 C2 noT m2 ∧ C2.toks = B11.toks.take 0 ∧ (C2.q1 = B11.q1 ∧ C2.q2 = B11.q2 ∧ C2.q3 = B11.q3 ∧ C2.seq = B11.seq) ∧ Rec.Recs wD a2 (B11.toks.map (tokR 5 2)) ∧ (∀ b off, a2 = some ⟨b, off, none⟩ → 0 < nt → b < wD.heap.size ∧ ∀ k, Foot s2 k → k ≠ b) from ⟨HC2.out.new hbD, by rw [HQ2.out.1]; rfl, HQ2.out.2, hrec, fun b off ha h0 => by
          have h1 := hgb b off ha h0
          obtain ⟨b', off', ha', hlt', _⟩ := hrec.2 (by rw [List.length_map, ← HNT.out]; exact h0)
          rw [ha] at ha'
          injection ha' with ha'
          injection ha' with ha1 ha2
          refine ⟨by omega, fun k hk e => ?_⟩
          have := HC2.out.bm.lt k hk
          omega⟩)
        clear hrec hgb hbD HTK
        go_wp2_with fail
        go_loopw [25] (fun v wr => ∃ (j : Nat) (s : Bl) (C : Bk) (m : List It), j ≤ nt ∧ v = .int .i64 (j : Int) ∧ Run w14 wr pc (1 + j) s C noT m ∧ C.toks = B11.toks.take j ∧ (C.q1 = B11.q1 ∧ C.q2 = B11.q2 ∧ C.q3 = B11.q3 ∧ C.seq = B11.seq) ∧ Rec.Recs wr a2 (B11.toks.map (tokR 5 2)) ∧ (∀ b off, a2 = some ⟨b, off, none⟩ → 0 < nt → b < wr.heap.size ∧ ∀ k, Foot s k → k ≠ b)) (fun v _ => nt - (intOf v).toNat)
        case atStart => exact ⟨0, s2, C2, m2, Nat.zero_le _, rfl, HST.out⟩
        case round =>
          obtain ⟨j, s5, C5, m5, hj, rfl, hR5, htk5, hq5, hrec5, hfo5⟩ := hrel
          have HR5 := Lib.hid hR5
          have HT5 := Lib.hid (And.intro htk5 hq5)
          have HE5 := Lib.hid hrec5
          have HF5 := Lib.hid hfo5
          clear hR5 htk5 hq5 hrec5 hfo5
          by_cases hlt : j < nt
          · have hji : (j : Int) < (nt : Int) := by omega
            have hjT : j < B11.toks.length := by rw [← HNT.out]; exact hlt
            have hjL : j < (B11.toks.map (tokR 5 2)).length := by rw [List.length_map]; exact hjT
            obtain ⟨g, off, ha2, hglt, hce⟩ := HE5.out.2 (by omega)
            have hck := hce j hjL
            have hri := HE5.out.1 _ (List.getElem_mem hjL)
            obtain ⟨r, hr⟩ : ∃ r, r = (B11.toks.map (tokR 5 2))[j] := ⟨_, rfl⟩
            have hrx : r = tokR 5 2 (B11.toks[j]) := by rw [hr, List.getElem_map]
            rw [← hr] at hck hri
            have HRX2 := Lib.hid (And.intro hrx hri)
            obtain ⟨e0, e1, e2, e3, e4, e5, e6, e7, e8, e9, e10, e11, e12, e13⟩ := Rec.cells_at hck
            subst ha2
            have hfo := HF5.out g off rfl (by omega)
            have HFO := Lib.hid hfo
            have hcal := HR5.out.apply2 (by omega) r hri (((0 : Nat) : Int), ((0 : Nat) : Int), ((0 : Nat) : Int)) (sp_small (by omega) (by omega) (by omega))
            have HCAL := Lib.hid hcal
            have HNX := Lib.hid (show (app C5 noT r (((0 : Nat) : Int), ((0 : Nat) : Int), ((0 : Nat) : Int))).toks = B11.toks.take (j + 1) ∧ ((app C5 noT r (((0 : Nat) : Int), ((0 : Nat) : Int), ((0 : Nat) : Int))).q1 = B11.q1 ∧ (app C5 noT r (((0 : Nat) : Int), ((0 : Nat) : Int), ((0 : Nat) : Int))).q2 = B11.q2 ∧ (app C5 noT r (((0 : Nat) : Int), ((0 : Nat) : Int), ((0 : Nat) : Int))).q3 = B11.q3 ∧ (app C5 noT r (((0 : Nat) : Int), ((0 : Nat) : Int), ((0 : Nat) : Int))).seq = B11.seq) ∧ appT C5 noT r (((0 : Nat) : Int), ((0 : Nat) : Int), ((0 : Nat) : Int)) = noT from by
              have hown : Own C5 r := by
                rw [hrx]
                exact ⟨may_tok (by omega) (by omega) (HTG.out.ok _ (List.getElem_mem hjT)), HR5.out.id.symm, HR5.out.gen.symm⟩
              have hpe : Rgt.putErr r.serial r.rights C5.toks = 0 := by
                rw [hrx, HT5.out.1]
                exact look_take_none HTG.out hjT
              have hap := app_tok (T := noT) (p := (((0 : Nat) : Int), ((0 : Nat) : Int), ((0 : Nat) : Int))) hown (by rw [hrx]; rfl) hpe
              rw [hap.1, hap.2]
              refine ⟨?_, HT5.out.2, rfl⟩
              show Rgt.put (tokOf r) C5.toks = _
              rw [hrx, HT5.out.1]
              exact put_take HTG.out.ris hjT)
            rw [HNX.out.2.2] at HCAL
            clear hck hri hr hrx hce hcal hfo
            go_wp2_with fail
            refine HCAL.out.mono ?_
            rintro e w6x ⟨rfl, s6, m6, hr6, hs6⟩
            have HEND := Lib.hid (show Run w14 w6x pc (1 + (j + 1)) s6 (app C5 noT r (((0 : Nat) : Int), ((0 : Nat) : Int), ((0 : Nat) : Int))) noT m6 ∧ Rec.Recs w6x (some ⟨g, off, none⟩) (B11.toks.map (tokR 5 2)) ∧ (∀ b o', (some ⟨g, off, none⟩ : Option Addr) = some ⟨b, o', none⟩ → 0 < nt → b < w6x.heap.size ∧ ∀ k, Foot s6 k → k ≠ b) from ⟨by rw [← Nat.add_assoc]; exact hr6, HE5.out.but hs6.but (fun p hp hf => by
                injection hp with hp
                rw [← hp] at hf
                exact HFO.out.2 g hf rfl), fun b o' hb h0 => by
                injection hb with hb
                injection hb with hb1 hb2
                rw [← hb1]
                have h1 := HFO.out.1
                refine ⟨Nat.lt_of_lt_of_le h1 hs6.but.size, fun k hk e => ?_⟩
                rcases hs6.new k hk with h2 | h2
                · exact HFO.out.2 k h2 e
                · omega⟩)
            clear hr6 hs6 HCAL e0 e1 e2 e3 e4 e5 e6 e7 e8 e9 e10 e11 e12 e13
            go_wp2_with fail
            go_roundw
            case rel => exact ⟨j + 1, s6, _, m6, by omega, by go_num, HEND.out.1, HNX.out.1, HNX.out.2.1, HEND.out.2⟩
            case measure => simp [intOf]; omega
          · have hjn : j = nt := by omega
            subst hjn
            have HTS := Lib.hid (show C5.toks = B11.toks from by rw [HT5.out.1, HNT.out, List.take_length])
            have HMC := Lib.hid (show ∀ V, But (fun _ => False) wr V → Calls Try.prog 12 #[.pointer (some ⟨pc, 0, none⟩)] V fun e w' => e = .returned (.agg #[.int .i64 1, .int .i64 C5.id, .int .u32 (C5.gen : Int), .int .i64 B11.q1, .int .i64 B11.q2, .int .i64 B11.q3, .int .u64 (B11.seq : Int), .int .u32 (C5.serial : Int), .int .i64 0, .int .u64 0, .string Rec.nothing, .string Rec.nothing, .int .u64 0, .int .u64 0]) ∧ But (fun _ => False) V w' from fun V hV => by
              have h := meta_any (HR5.out.new hV).bm
              rw [HR5.out.p] at h
              obtain ⟨h1, h2, h3, h4⟩ := HT5.out.2
              rw [← h1, ← h2, ← h3, ← h4]
              exact h)
            have HMB := Lib.hid (show ∀ V, But (fun _ => False) wr V → Calls Try.prog 12 #[.pointer (some ⟨p0, 0, none⟩)] V fun e w' => e = .returned (.agg #[.int .i64 1, .int .i64 B11.id, .int .u32 (B11.gen : Int), .int .i64 B11.q1, .int .i64 B11.q2, .int .i64 B11.q3, .int .u64 (B11.seq : Int), .int .u32 (B11.serial : Int), .int .i64 0, .int .u64 0, .string Rec.nothing, .string Rec.nothing, .int .u64 0, .int .u64 0]) ∧ But (fun _ => False) V w' from fun V hV => by
              have h := meta_any ((HRX.out.new HR5.out.but).new hV).bm
              rw [HRX.out.p] at h
              exact h)
            have HTC := Lib.hid (show ∀ V, But (fun _ => False) wr V → Calls Try.prog 13 #[.pointer (some ⟨pc, 0, none⟩)] V fun e w' => ∃ a c, e = .returned (.slice a j c) ∧ Rec.Recs w' a (B11.toks.map (tokR 5 2)) ∧ But (fun _ => False) V w' from fun V hV => by
              have h := tokens_any (HR5.out.new hV).bm HR5.out.ok
              rw [HR5.out.p, HR5.out.id, HR5.out.gen, HTS.out, ← HNT.out] at h
              exact h.mono (fun e w' ⟨a, c, h1, h2, _, h3⟩ => ⟨a, c, h1, h2, h3⟩))
            have fs := field_seq
            have fq := field_quota
            have ql := quota_eql B11.q1 B11.q2 B11.q3
            go_wp2_with fail
            refine (HMC.out _ (But.refl _ _)).mono ?_
            rintro e v1 ⟨rfl, hv1⟩
            have HV1 := Lib.hid hv1
            clear hv1
            go_wp2_with fail
            refine (HMB.out _ HV1.out).mono ?_
            rintro e v2 ⟨rfl, hv2⟩
            have HV2 := Lib.hid (HV1.out.trans hv2 (fun _ _ h => h))
            clear hv2
            go_wp2_with fail
            refine (HMC.out _ HV2.out).mono ?_
            rintro e v3 ⟨rfl, hv3⟩
            have HV3 := Lib.hid (HV2.out.trans hv3 (fun _ _ h => h))
            clear hv3
            go_wp2_with fail
            refine (HMB.out _ HV3.out).mono ?_
            rintro e v4 ⟨rfl, hv4⟩
            have HV4 := Lib.hid (HV3.out.trans hv4 (fun _ _ h => h))
            clear hv4
            go_wp2_with fail
            refine (HTC.out _ HV4.out).mono ?_
            rintro e v5 ⟨a5, c5, rfl, hre5, hv5⟩
            have HV5 := Lib.hid (HV4.out.trans hv5 (fun _ _ h => h))
            have hsame := fun cap cap' => Rec.same_yes a5 a2 cap cap' (B11.toks.map (tokR 5 2)) v5 hre5 (HE5.out.below HV5.out.new) (by rw [List.length_map, ← HNT.out]; omega)
            rw [List.length_map, ← HNT.out] at hsame
            have HSM := Lib.hid hsame
            clear hsame hre5 hv5
            go_wp2_with fail
            refine (HSM.out _ _).mono ?_
            rintro e v6 ⟨rfl, nq, rfl⟩
            have HFI := Lib.hid (show But (fun _ => False) W (v5.drewN nq) from (HRX.out.but.trans (HR5.out.but.trans HV5.out (fun _ _ h => h)) (fun _ _ h => h)).drewN nq)
            clear fs fq ql
            go_wp2_with fail
            go_ret
            exact ⟨rfl, HFI.out⟩
end Go.Proofs.Ytgjofinbdigmcaa.Buk

/- What the document's Written answers. -/
import Derived.Test.YtbdbbnpkekcefaaCmdRBytes
import Derived.Test.YtbdbbnpkekcefaaCmdRParse
import Derived.Test.YtbdbbnpkekcefaaCmdRSame
import Derived.Test.YtbdbbnpkekcefaaCmdCPut
namespace Go.Proofs.Ytbdbbnpkekcefaa.Cmd
open Go.Proofs.Ytbdbbnpkekcefaa.Mem Go.Proofs.Ytbdbbnpkekcefaa.Pack
open Go.ChangeShapes Go.WideShapes Go.ChangeAt Go.RowKit
set_option linter.unusedVariables false
set_option linter.unusedSimpArgs false

def WrittenIs (q : Rq) (w : World) (e : Ending) (w' : World) : Prop :=
  But (fun _ => False) w w' ∧ ((mayWrite q ∧ ∃ v, e = .returned (.tuple #[v, .bool true]) ∧ w'.ownsRow w.heap.size 5 1 v (refBytes q).length (cellsOf (refBytes q))) ∨
    (¬ mayWrite q ∧ ∃ a n c, e = .returned (.tuple #[.slice a n c, .bool false])))
theorem refBytes_le (q : Rq) (haf : q.after.size ≤ 65535) (hsm : Small q.ops) (h16 : q.ops.length ≤ 16) : (refBytes q).length ≤ 100000000 := by
  have h1 := ops_take_le (tag := q.tag) hsm q.ops.length
  rw [List.take_of_length_le (Nat.le_refl _)] at h1
  have hA : (if q.tag ≤ 5 then put q.admin 8 else putTok q.tok).length ≤ 17 := by split <;> simp [putTok, put_length]
  have hB : (if q.tag ≤ 3 then put (u64 q.bucket) 1 else []).length ≤ 1 := by split <;> simp [put_length]
  have hC : (if q.tag = 1 ∨ q.tag = 3 then putQuo q.quo else if q.tag = 9 then put q.ops.length 1 else if q.tag = 10 then text q.after ++ (flag q.first ++ put (u64 q.count) 1)
    else if q.tag = 12 then put (u64 q.rights) 1 else if q.tag = 13 then put q.serial 4 else []).length ≤ 70000 := by
    repeat' split
    all_goals (simp [putQuo, put_length, text_length, flag]; try omega)
  unfold refBytes refMore
  rw [List.length_append, List.length_append, List.length_append, List.length_append, put_length]
  omega
theorem refBytes_bytes (q : Rq) : Bytes (refBytes q) := by
  have hk : ∀ t, Bytes (putTok t) := fun t => bytes_append (put_bytes _ _) (bytes_append (put_bytes _ _) (bytes_append (put_bytes _ _) (put_bytes _ _)))
  have hop : ∀ t o, Bytes (putOp t o) := fun t o => by
    unfold putOp
    refine bytes_append (text_bytes _) ?_
    split
    · exact bytes_nil
    · refine bytes_append (put_bytes _ _) ?_
      split
      · exact bytes_nil
      · exact bytes_append (text_bytes _) (put_bytes _ _)
  unfold refBytes refMore
  refine bytes_append (put_bytes _ _) (bytes_append ?_ (bytes_append ?_ (bytes_append ?_ ?_)))
  · split
    · exact put_bytes _ _
    · exact hk _
  · split
    · exact put_bytes _ _
    · exact bytes_nil
  · repeat' split
    · exact bytes_append (put_bytes _ _) (bytes_append (put_bytes _ _) (put_bytes _ _))
    · exact put_bytes _ _
    · exact bytes_append (text_bytes _) (bytes_append (put_bytes _ _) (put_bytes _ _))
    · exact put_bytes _ _
    · exact put_bytes _ _
    · exact bytes_nil
  · intro z hz
    obtain ⟨o, _, ho⟩ := List.mem_flatMap.1 hz
    refine bytes_append ?_ (hop _ o) z ho
    split
    · exact put_bytes _ _
    · exact bytes_nil
set_option maxRecDepth 100000 in
set_option maxHeartbeats 8000000 in
theorem written_any (q : Rq) (hi : RqIs q) (haf : q.after.size ≤ 65535) (hsm : Small q.ops) (sv : Value) (w : World) (hops : OpsAt w sv q.ops) :
    Calls Try.prog 14 #[rv q sv] w fun e w' => WrittenIs q w e w' := by
  have hone := rcells_one (q := q) hops
  have hops0 := hops
  obtain ⟨oa, oc, hsv, -⟩ := hops0
  obtain ⟨cs, hcs⟩ : ∃ cs, cs = rcells q sv := ⟨_, rfl⟩
  have hrv : rv q sv = .agg cs := by rw [hcs]; rfl
  have hsz : cs.size = 16 := by rw [hcs]; rfl
  have h0 : cs[0]? = some (.int .i64 q.tag) := by rw [hcs]; rfl
  have h10 : cs[10]? = some (.slice oa q.ops.length oc) := by rw [hcs, hsv]; rfl
  rw [← hcs] at hone
  obtain ⟨W1, hW1⟩ : ∃ W, W = w.alloc (.cells cs 39) := ⟨_, rfl⟩
  have hbx : Blk W1 w.heap.size 39 cs := by rw [hW1]; exact Blk.new _ _ _
  have b1 : But (fun _ => False) w W1 := by rw [hW1]; exact (But.refl _ w).alloc _
  have c0 : W1.cell? ⟨w.heap.size, 0, none⟩ = some (.int .i64 q.tag) := (hbx.cell 0).trans h0
  have c10 : W1.cell? ⟨w.heap.size, 10, none⟩ = some (.slice oa q.ops.length oc) := (hbx.cell 10).trans h10
  have hops1 := hops.nw b1
  have HBY := Lib.hid (fun ht => rbytes_any q hi ht haf hsm sv W1 hops1)
  have HLE := Lib.hid (fun h16 => refBytes_le q haf hsm h16)
  obtain ⟨tag, htag⟩ : ∃ t, t = q.tag := ⟨_, rfl⟩
  obtain ⟨L, hL⟩ : ∃ n, n = q.ops.length := ⟨_, rfl⟩
  rw [← htag] at c0 h0
  rw [← hL] at c10 h10
  have HTL := Lib.hid (And.intro htag hL)
  have HB1 := Lib.hid (And.intro hbx (And.intro b1 hops1))
  have HSAME := Lib.hid (fun p sv5 V h1 h2 hl1 hl2 => rsame_any p q sv5 sv V h1 h2 hl1 hl2)
  have HSZ1 := Lib.hid hsz
  have HRS1 := Lib.hid (ref_size.trans (show some 16 = some cs.size by rw [hsz]))
  have HW1 := Lib.hid hW1
  have HNOT := Lib.hid (fun (h : ¬ ((1 ≤ tag ∧ tag ≤ 13) ∧ L ≤ 16)) => show ¬ mayWrite q from fun hm => h ⟨by rw [htag]; exact hm.1, by rw [hL]; exact hm.2.1⟩)
  rw [hrv] at HBY HSAME ⊢
  clear hbx b1 hops hops1 hcs hrv hsz hone htag hL hsv hW1 h0 h10 hi haf hsm
  go_enter Try.func14, Try.ntmps14
  by_cases a1 : tag < 1
  · have d1 : decide (tag < 1) = true := decide_eq_true a1
    have HN := Lib.hid (HNOT.out (by omega))
    clear a1 HNOT
    go_wp2_with (rw [← HW1.out])
    go_ret2
    exact ⟨HB1.out.2.1, .inr ⟨HN.out, _, _, _, rfl⟩⟩
  have d1 : decide (tag < 1) = false := decide_eq_false a1
  by_cases a2 : 13 < tag
  · have d2 : decide (13 < tag) = true := decide_eq_true a2
    have HN := Lib.hid (HNOT.out (by omega))
    clear a1 a2 HNOT
    go_wp2_with (rw [← HW1.out])
    go_ret2
    exact ⟨HB1.out.2.1, .inr ⟨HN.out, _, _, _, rfl⟩⟩
  have d2 : decide (13 < tag) = false := decide_eq_false a2
  by_cases a3 : 16 < L
  · have d3 : decide ((16 : Int) < (L : Int)) = true := decide_eq_true (by omega)
    have HN := Lib.hid (HNOT.out (by omega))
    clear a1 a2 a3 HNOT
    go_wp2_with (rw [← HW1.out])
    go_ret2
    exact ⟨HB1.out.2.1, .inr ⟨HN.out, _, _, _, rfl⟩⟩
  have d3 : decide ((16 : Int) < (L : Int)) = false := decide_eq_false (by omega)
  have HT := Lib.hid (show 1 ≤ q.tag ∧ q.tag ≤ 13 by rw [← HTL.out.1]; omega)
  have H16 := Lib.hid (show q.ops.length ≤ 16 by rw [← HTL.out.2]; omega)
  have HBYC := Lib.hid (HBY.out HT.out)
  have hle := HLE.out H16.out
  clear a1 a2 a3 HNOT HBY
  go_wp2_with (first
    | (rw [← HW1.out])
    | (refine wpList_load_row rfl 39 _ rfl w.heap.size rfl 39 _ (0, 0) _ HB1.out.1 Try.underlying39 rfl HRS1.out ?_))
  clear c0 c10 d1 d2 d3
  refine HBYC.out.mono ?_
  rintro e w2 ⟨v, rfl, hown, hb2⟩
  obtain ⟨a2, k2, rfl, hr2, -, ha2⟩ := own_shape hown (refBytes_bytes q)
  have hnil : a2 = none → k2 = 0 := fun e => by
    rcases ha2 with h | ⟨g, h, _⟩
    · exact h.2.1
    · rw [e] at h; cases h
  have hcap : (refBytes q).length ≤ k2 ∧ k2 ≤ maxLen := by
    rcases ha2 with ⟨-, h1, h2⟩ | ⟨g, -, -, -, h1, h2⟩
    · rw [h2]; exact ⟨Nat.zero_le _, by rw [h1]; exact Nat.zero_le _⟩
    · exact ⟨h1, h2⟩
  have hb12 : But (fun _ => False) W1 w2 := But.of_new hb2
  have HOWN := Lib.hid (own_lower hown (base' := w.heap.size) HB1.out.2.1.size)
  have HPARSE := Lib.hid (rparse_any a2 k2 (refBytes q) w2 hr2 hnil hcap.1 hcap.2 (by omega))
  have H2 := Lib.hid (And.intro (HB1.out.1.but hb12 (fun e => e)) (And.intro (HB1.out.2.1.trans hb12 (fun _ _ e => e)) (HB1.out.2.2.nw hb12)))
  obtain ⟨zs, hzs⟩ : ∃ z, z = refBytes q := ⟨_, rfl⟩
  rw [← hzs] at HOWN HPARSE ⊢
  have HZ := Lib.hid hzs
  have HFEW := Lib.hid (readRq_few ⟨zs, false⟩ (by rw [hzs]; exact refBytes_bytes q))
  clear hown hr2 ha2 hnil hcap hb2 hb12 HBYC hle HLE hzs HB1
  go_wp2_with fail
  refine HPARSE.out.mono ?_
  rintro e w3 ⟨hb3, hcase⟩
  obtain ⟨p, sv3, ok, rfl, ho3, hok, hpp, hpl⟩ : ∃ (p : Rq) (sv3 : Value) (ok : Bool), e = .returned (.tuple #[rv p sv3, .bool ok]) ∧ OpsAt w3 sv3 p.ops ∧ ok = good zs ∧ (ok = true → p = readRq ⟨zs, false⟩) ∧ p.ops.length ≤ 1000000 := by
    rcases hcase with ⟨hg, sv3, rfl, ho⟩ | ⟨hg, rfl⟩
    · exact ⟨_, sv3, true, rfl, ho, hg.symm, fun _ => rfl, by have := HFEW.out; omega⟩
    · exact ⟨zeroRq, .slice none 0 0, false, rfl, OpsAt.nil _, hg.symm, (fun h => by cases h), Nat.zero_le _⟩
  have hone := rcells_one (q := p) ho3
  obtain ⟨cs2, hcs⟩ : ∃ cs, cs = rcells p sv3 := ⟨_, rfl⟩
  have hrv : rv p sv3 = .agg cs2 := by rw [hcs]; rfl
  have hsz : cs2.size = 16 := by rw [hcs]; rfl
  rw [← hcs] at hone
  have HNB := Lib.hid (Blk.new w3 39 #[.int .i64 0, .int .u64 0, .int .i64 0, .int .i64 0, .int .i64 0, .int .i64 0, .int .i64 0, .int .u32 0, .int .u32 0, .int .u64 0, .slice none 0 0, .string ⟨#[]⟩, .bool false, .int .i64 0, .int .i64 0, .int .u32 0])
  have hxB : Blk ((w3.alloc (.cells #[.int .i64 0, .int .u64 0, .int .i64 0, .int .i64 0, .int .i64 0, .int .i64 0, .int .i64 0, .int .u32 0, .int .u32 0, .int .u64 0, .slice none 0 0, .string ⟨#[]⟩, .bool false, .int .i64 0, .int .i64 0, .int .u32 0] 39)).setRow w3.heap.size cs2) w3.heap.size 39 cs2 := HNB.out.row cs2
  have hbB : But (fun _ => False) w3 ((w3.alloc (.cells #[.int .i64 0, .int .u64 0, .int .i64 0, .int .i64 0, .int .i64 0, .int .i64 0, .int .i64 0, .int .u32 0, .int .u32 0, .int .u64 0, .slice none 0 0, .string ⟨#[]⟩, .bool false, .int .i64 0, .int .i64 0, .int .u32 0] 39)).setRow w3.heap.size cs2) := but_two w3 w3.heap.size #[.int .i64 0, .int .u64 0, .int .i64 0, .int .i64 0, .int .i64 0, .int .i64 0, .int .i64 0, .int .u32 0, .int .u32 0, .int .u64 0, .slice none 0 0, .string ⟨#[]⟩, .bool false, .int .i64 0, .int .i64 0, .int .u32 0] cs2 39 rfl
  obtain ⟨WB, hWB⟩ : ∃ W, W = ((w3.alloc (.cells #[.int .i64 0, .int .u64 0, .int .i64 0, .int .i64 0, .int .i64 0, .int .i64 0, .int .i64 0, .int .u32 0, .int .u32 0, .int .u64 0, .slice none 0 0, .string ⟨#[]⟩, .bool false, .int .i64 0, .int .i64 0, .int .u32 0] 39)).setRow w3.heap.size cs2) := ⟨_, rfl⟩
  rw [← hWB] at hxB hbB
  have h23 : But (fun _ => False) _ w3 := But.of_new hb3
  have h2B := h23.trans hbB (fun _ _ e => e)
  have HXA := Lib.hid (H2.out.1.but h2B (fun e => e))
  have HXB := Lib.hid hxB
  have HFIN := Lib.hid (And.intro (H2.out.2.1.trans h2B (fun _ _ e => e)) (ownsRow_but HOWN.out h2B (fun _ _ e => e)))
  have HSM := Lib.hid (HSAME.out p sv3 WB (ho3.nw hbB) (H2.out.2.2.nw h2B) hpl (by have := H16.out; omega))
  have HONE2 := Lib.hid hone
  have HSZ2 := Lib.hid hsz
  have HRS2 := Lib.hid (ref_size.trans (show some 16 = some cs2.size by rw [hsz]))
  have HWB := Lib.hid hWB
  have HOK := Lib.hid (And.intro hok hpp)
  rw [hrv] at HSM ⊢
  clear hbB hxB h23 h2B ho3 hb3 hone hcs hrv hsz hWB hok hpp hpl hcase HSAME H2 HOWN HPARSE HFEW
  go_wp2_with (first
    | (refine wpList_store_rowTo rfl 39 _ _ rfl rfl w3.heap.size cs2 rfl rfl 39 #[.int .i64 0, .int .u64 0, .int .i64 0, .int .i64 0, .int .i64 0, .int .i64 0, .int .i64 0, .int .u32 0, .int .u32 0, .int .u64 0, .slice none 0 0, .string ⟨#[]⟩, .bool false, .int .i64 0, .int .i64 0, .int .u32 0] HNB.out HRS2.out HSZ2.out.symm HONE2.out ?_; rw [← HWB.out])
    | (refine wpList_load_row rfl 39 _ rfl w3.heap.size rfl 39 _ (0, 0) _ HXB.out Try.underlying39 rfl HRS2.out ?_)
    | (refine wpList_load_row rfl 39 _ rfl w.heap.size rfl 39 _ (0, 0) _ HXA.out Try.underlying39 rfl HRS1.out ?_))
  refine HSM.out.mono ?_
  rintro e w4 ⟨r, rfl, hri, hb4⟩
  have HF := Lib.hid (HFIN.out.1.trans hb4 (fun _ _ e => e))
  have HO := Lib.hid (ownsRow_but HFIN.out.2 hb4 (fun _ _ e => e))
  have HRI := Lib.hid hri
  clear hb4 hri
  cases ok
  · have HN : Hid (¬ mayWrite q) := Lib.hid (fun h => by have := h.2.2.1; rw [← HZ.out, ← HOK.out.1] at this; cases this)
    go_wp2_with fail
    go_ret2
    exact ⟨HF.out, .inr ⟨HN.out, _, _, _, rfl⟩⟩
  · cases r
    · have HN : Hid (¬ mayWrite q) := Lib.hid (fun h => by have h1 := h.2.2.2; rw [← HZ.out, ← HOK.out.2 rfl] at h1; have := HRI.out.2 h1; cases this)
      go_wp2_with fail
      go_ret2
      exact ⟨HF.out, .inr ⟨HN.out, _, _, _, rfl⟩⟩
    · have HY : Hid (mayWrite q) := Lib.hid ⟨HT.out, H16.out, by rw [← HZ.out]; exact HOK.out.1.symm, by rw [← HZ.out, ← HOK.out.2 rfl]; exact HRI.out.1 rfl⟩
      go_wp2_with fail
      go_ret2
      exact ⟨HF.out, .inl ⟨HY.out, _, rfl, by rw [← HZ.out]; exact HO.out⟩⟩
end Go.Proofs.Ytbdbbnpkekcefaa.Cmd

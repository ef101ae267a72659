/- Contracts of a table's calls. -/
import Derived.Test.YtciplhpnbpmfeaaRgtAt
import Derived.Test.YtciplhpnbpmfeaaLate
import Derived.Lib.Hide
import Derived.WalkKit
namespace Go.Proofs.Ytciplhpnbpmfeaa.Rgt
open Go.Proofs.Ytciplhpnbpmfeaa.Mem
open Go.ChangeShapes Go.WideShapes Go.ChangeAt Go.RowKit
open Go.Proofs.Ytciplhpnbpmfeaa.Err (errV errV_zero errV_some)
set_option linter.unusedVariables false
set_option linter.unusedSimpArgs false
section
variable {w w' : World} {p mb : Nat} {T : List Tok}
theorem rgt_are (r : Int) (w : World) : Calls Try.prog 17 #[.int .i64 r] w fun e w' => e = .returned (.bool (decide (1 ≤ r ∧ r ≤ 7))) ∧ w = w' := by
  by_cases h1 : r ≥ 1
  · by_cases h2 : r ≤ 7
    · rw [show decide (1 ≤ r ∧ r ≤ 7) = true from by simp; omega]
      go_enter Try.func17, Try.ntmps17
      go_wp2
      go_ret
      exact ⟨rfl, rfl⟩
    · rw [show decide (1 ≤ r ∧ r ≤ 7) = false from by simp; omega]
      go_enter Try.func17, Try.ntmps17
      go_wp2
      go_ret
      exact ⟨rfl, rfl⟩
  · rw [show decide (1 ≤ r ∧ r ≤ 7) = false from by simp; omega]
    go_enter Try.func17, Try.ntmps17
    go_wp2
    go_ret
    exact ⟨rfl, rfl⟩
theorem rgt_new (w : World) : Calls Try.prog 6 #[] w fun e w' => ∃ p mb, e = .returned (.pointer (some ⟨p, 0, none⟩)) ∧ RAt w' p mb [] ∧ (w.heap.size ≤ p ∧ w.heap.size ≤ mb) ∧ But (fun _ => False) w w' := by
  have hmm := @run_makeMap Try.prog
  go_enter Try.func6, Try.ntmps6
  go_wp2
  go_ret
  refine ⟨w.heap.size + 1, w.heap.size, by simp, ?_, ⟨by omega, by omega⟩, ((But.refl _ w).alloc _).alloc _⟩
  have h1 : Blk ((w.alloc (.map #[] 0)).alloc (.cells #[.map (some w.heap.size)] 51)) (w.alloc (.map #[] 0)).heap.size 51 #[.map (some w.heap.size)] := Blk.new _ _ _
  rw [show (w.alloc (.map #[] 0)).heap.size = w.heap.size + 1 from by simp] at h1
  exact ⟨h1, ⟨0, .map [], (World.ownsMap_made w _ _ _).alloc _, by omega, tells_new⟩, Good.nil⟩
theorem tok_size : (Try.prog.info? 54).map (·.size) = some 2 := by kernel_rfl
theorem rgt_len (h : RAt w p mb T) : Calls Try.prog 15 #[.pointer (some ⟨p, 0, none⟩)] w fun e w' => e = .returned (.int .i64 (T.length : Int)) ∧ w = w' := by
  obtain ⟨D, hm, ht⟩ := h.tight
  have c0 : w.cell? ⟨p, 0, none⟩ = some (.map (some mb)) := h.blk.cell 0
  have hl := hm.len Try.underlying49
  rw [ht.size] at hl
  go_enter Try.func15, Try.ntmps15
  go_wp2
  go_ret
  exact ⟨rfl, rfl⟩
set_option maxRecDepth 100000 in
set_option maxHeartbeats 1000000 in
theorem rgt_rights (h : RAt w p mb T) {s k : Nat} (hs : s < 4294967296) : Calls Try.prog 16 #[.pointer (some ⟨p, 0, none⟩), .int .u32 (s : Int), .int .u64 (k : Int)] w fun e w' => e = .returned (.int .i64 (has s k T)) ∧ But (fun _ => False) w w' := by
  have c0 : w.cell? ⟨p, 0, none⟩ = some (.map (some mb)) := h.blk.cell 0
  rcases ho : look s T with _ | x
  · have lk := h.look hs none ho
    have e1 : has s k T = 0 := by unfold has; rw [ho]
    rw [e1]
    clear e1
    unfold tokOf tcells at lk
    go_enter Try.func16, Try.ntmps16
    go_wp2
    go_ret
    exact ⟨rfl, (But.refl _ w).alloc _⟩
  · have lk := h.look hs (some x) ho
    unfold tokOf tcells at lk
    by_cases hk : x.k = k
    · have e1 : has s k T = x.r := by unfold has; rw [ho]; exact if_pos hk
      rw [e1]
      clear e1
      have hkk : ((x.k : Int) = (k : Int)) := by omega
      go_enter Try.func16, Try.ntmps16
      go_wp2
      go_ret
      exact ⟨rfl, (But.refl _ w).alloc _⟩
    · have e1 : has s k T = 0 := by unfold has; rw [ho]; exact if_neg hk
      rw [e1]
      clear e1
      have hkk : ¬ ((x.k : Int) = (k : Int)) := by omega
      go_enter Try.func16, Try.ntmps16
      go_wp2
      go_ret
      exact ⟨rfl, (But.refl _ w).alloc _⟩
set_option maxRecDepth 100000 in
set_option maxHeartbeats 1000000 in
theorem rgt_revoke (h : RAt w p mb T) {s : Nat} (hs : s < 4294967296) : Calls Try.prog 11 #[.pointer (some ⟨p, 0, none⟩), .int .u32 (s : Int)] w fun e w' => e = .returned (.bool (look s T).isSome) ∧ RAt w' p mb (del s T) ∧ But (fun j => j = mb) w w' := by
  have c0 : w.cell? ⟨p, 0, none⟩ = some (.map (some mb)) := h.blk.cell 0
  obtain ⟨o, ho⟩ : ∃ o, look s T = o := ⟨_, rfl⟩
  have lk := h.look hs o ho
  obtain ⟨r, k, hrk⟩ : ∃ (r : Int) (k : Nat), tokOf o = tcells r k := by
    cases o with
    | none => exact ⟨0, 0, rfl⟩
    | some x => exact ⟨x.r, x.k, rfl⟩
  rw [hrk] at lk
  unfold tcells at lk
  rw [ho]
  clear hrk
  obtain ⟨b, hb⟩ : ∃ b, o.isSome = b := ⟨_, rfl⟩
  rw [hb] at lk ⊢
  have HB := Lib.hid (And.intro ho hb)
  clear hb ho
  have h2 := h.new ((But.refl (fun _ => False) w).alloc (.cells #[.int .i64 r, .int .u64 (k : Int)] 54))
  obtain ⟨n, D, hm, hn, ht⟩ := h2.map
  have c1 : (w.alloc (.cells #[.int .i64 r, .int .u64 (k : Int)] 54)).cell? ⟨p, 0, none⟩ = some (.map (some mb)) := h2.blk.cell 0
  have H := Lib.hid h2
  have HM := Lib.hid hm
  have HT := Lib.hid (And.intro hn ht)
  have HP := Lib.hid h.lt
  clear h h2 hm hn ht
  go_enter Try.func11, Try.ntmps11
  go_wp2_with (at_delete; refine wpList_delete_own _ rfl _ _ 49 28 rfl 54 law Try.underlying49 _ mb _ _ rfl HM.out _ _ rfl (key32 hs) ?_; intro w5 hm5 ht5; clear c0 c1 lk)
  go_ret
  have hb5 := turned_but ht5
  have h5 := H.out
  refine ⟨rfl, ⟨h5.blk.but hb5 (fun e => h5.ne h5.blk e.symm), ⟨n, _, hm5, HT.out.1, HT.out.2.del (HM.out.tidy law) h5.good.ris s⟩, h5.good.del s⟩, (((But.refl (fun j => j = mb) w).alloc _).trans hb5 (fun j _ e => e))⟩
set_option maxRecDepth 100000 in
set_option maxHeartbeats 1000000 in
theorem rgt_put (h : RAt w p mb T) {s k : Nat} (hs : s < 4294967296) (hk : k < 18446744073709551616) (r : Int) : Calls Try.prog 13 #[.pointer (some ⟨p, 0, none⟩), .int .u32 (s : Int), .int .i64 r, .int .u64 (k : Int)] w fun e w' => e = .returned (errV (putErr s r T)) ∧ RAt w' p mb (putTo ⟨s, r, k⟩ T) ∧ But (fun j => j = mb) w w' := by
  have c0 : w.cell? ⟨p, 0, none⟩ = some (.map (some mb)) := h.blk.cell 0
  have ha := Lib.hid (rgt_are r)
  by_cases hr : 1 ≤ r ∧ r ≤ 7
  · have hr2 : decide (1 ≤ r ∧ r ≤ 7) = true := by simp; omega
    rw [hr2] at ha
    obtain ⟨o, ho⟩ : ∃ o, look s T = o := ⟨_, rfl⟩
    have lk := h.look hs o ho
    obtain ⟨r0, k0, hrk⟩ : ∃ (r : Int) (k : Nat), tokOf o = tcells r k := by
      cases o with
      | none => exact ⟨0, 0, rfl⟩
      | some x => exact ⟨x.r, x.k, rfl⟩
    rw [hrk] at lk
    unfold tcells at lk
    have h2 := h.new ((But.refl (fun _ => False) w).alloc (.cells #[.int .i64 r0, .int .u64 (k0 : Int)] 54))
    obtain ⟨D, hm, ht⟩ := h2.tight
    have c1 : (w.alloc (.cells #[.int .i64 r0, .int .u64 (k0 : Int)] 54)).cell? ⟨p, 0, none⟩ = some (.map (some mb)) := h2.blk.cell 0
    have hl := hm.len Try.underlying49
    rw [ht.size] at hl
    have H := Lib.hid h2
    have HM := Lib.hid hm
    have HT := Lib.hid ht
    have HP := Lib.hid h.lt
    clear h h2 hm ht hrk
    by_cases hfull : o = none ∧ 100 ≤ T.length
    · have e1 : putErr s r T = 13 := by unfold putErr; rw [if_neg (by omega), if_pos (by rw [ho]; exact hfull)]
      have e2 : putTo ⟨s, r, k⟩ T = T := by unfold putTo; rw [if_neg (by show ¬ putErr s r T = 0; rw [e1]; omega)]
      rw [e1, e2]
      obtain ⟨rfl, hf⟩ := hfull
      have hfi : (100 : Int) ≤ (T.length : Int) := by omega
      clear e1 e2 hf ho
      obtain ⟨m, hm⟩ : ∃ m, m = T.length := ⟨_, rfl⟩
      rw [← hm] at hl hfi
      clear hm
      go_enter Try.func13, Try.ntmps13
      go_wp2_with (first | (go_at_call 17; refine (ha.out _).mono ?_; rintro e w1 ⟨rfl, rfl⟩))
      go_ret
      exact ⟨rfl, H.out, (But.refl (fun j => j = mb) w).alloc _⟩
    · have e1 : putErr s r T = 0 := by unfold putErr; rw [if_neg (by omega), if_neg (by rw [ho]; exact hfull)]
      have e2 : putTo ⟨s, r, k⟩ T = put ⟨s, r, k⟩ T := by unfold putTo; rw [if_pos e1]
      have hG := Lib.hid (show Good (put ⟨s, r, k⟩ T) from e2 ▸ (H.out.good.putTo (x := ⟨s, r, k⟩) hs hk))
      rw [e1, e2]
      have hb2 := Lib.hid ((But.refl (fun j => j = mb) w).alloc (.cells #[.int .i64 r0, .int .u64 (k0 : Int)] 54))
      have hf : o = none → ¬ (100 : Int) ≤ (T.length : Int) := fun h h2 => hfull ⟨h, by omega⟩
      have hTl := H.out.good.len
      have HTL := Lib.hid hTl
      clear e1 e2 ho hfull hTl
      obtain ⟨m, hm⟩ : ∃ m, m = T.length := ⟨_, rfl⟩
      rw [← hm] at hl hf HM HTL
      have HMM := Lib.hid hm
      clear hm
      obtain ⟨W2, hW2⟩ : ∃ W2, W2 = w.alloc (.cells #[.int .i64 r0, .int .u64 (k0 : Int)] 54) := ⟨_, rfl⟩
      cases o with
      | none =>
        have hfi := hf rfl
        clear hf hW2
        go_enter Try.func13, Try.ntmps13
        go_wp2_with (first
          | (go_at_call 17; refine (ha.out _).mono ?_; rintro e w1 ⟨rfl, rfl⟩)
          | (at_mapUpdate; refine wpList_mapUpdate_in _ rfl _ _ _ 49 rfl 28 54 law Try.underlying49 _ mb _ _ rfl HM.out (by have := HTL.out; unfold maxLen; omega) _ _ _ rfl rfl (key32 hs) _ _ (tokElem_is r k) ?_; intro w5 hm5 ht5; clear c0 c1 lk hl))
        go_ret
        have hb5 := turned_but ht5
        have h5 := H.out
        exact ⟨rfl, ⟨h5.blk.but hb5 (fun e => h5.ne h5.blk e.symm), ⟨_, _, hm5, by have := HTL.out; omega, HT.out.put HM.out.isMap (HM.out.tidy law) h5.good.ris ⟨s, r, k⟩⟩, hG.out⟩, hb2.out.trans hb5 (fun j _ e => e)⟩
      | some x =>
        clear hf hW2
        go_enter Try.func13, Try.ntmps13
        go_wp2_with (first
          | (go_at_call 17; refine (ha.out _).mono ?_; rintro e w1 ⟨rfl, rfl⟩)
          | (at_mapUpdate; refine wpList_mapUpdate_in _ rfl _ _ _ 49 rfl 28 54 law Try.underlying49 _ mb _ _ rfl HM.out (by have := HTL.out; unfold maxLen; omega) _ _ _ rfl rfl (key32 hs) _ _ (tokElem_is r k) ?_; intro w5 hm5 ht5; clear c0 c1 lk hl))
        go_ret
        have hb5 := turned_but ht5
        have h5 := H.out
        exact ⟨rfl, ⟨h5.blk.but hb5 (fun e => h5.ne h5.blk e.symm), ⟨_, _, hm5, by have := HTL.out; omega, HT.out.put HM.out.isMap (HM.out.tidy law) h5.good.ris ⟨s, r, k⟩⟩, hG.out⟩, hb2.out.trans hb5 (fun j _ e => e)⟩
  · have hr2 : decide (1 ≤ r ∧ r ≤ 7) = false := by simp; omega
    rw [hr2] at ha
    have e1 : putErr s r T = 1 := by unfold putErr; rw [if_pos (by omega)]
    have e2 : putTo ⟨s, r, k⟩ T = T := by unfold putTo; rw [if_neg (by show ¬ putErr s r T = 0; rw [e1]; omega)]
    rw [e1, e2]
    have H := Lib.hid h
    clear h c0 hr hr2 e1 e2
    go_enter Try.func13, Try.ntmps13
    go_wp2_with (first | (go_at_call 17; refine (ha.out _).mono ?_; rintro e w1 ⟨rfl, rfl⟩))
    go_ret
    exact ⟨rfl, H.out, But.refl _ w⟩
def within (a b : Int) : Bool := decide (1 ≤ a ∧ a ≤ 7) && (bits .and .i64 a b == a)
set_option maxRecDepth 100000 in
set_option maxHeartbeats 1000000 in
theorem rgt_within (a b : Int) (w : World) : Calls Try.prog 7 #[.int .i64 a, .int .i64 b] w fun e w' => e = .returned (.bool (within a b)) ∧ w = w' := by
  have ha := Lib.hid (rgt_are a)
  unfold within
  by_cases hr : 1 ≤ a ∧ a ≤ 7
  · have hr2 : decide (1 ≤ a ∧ a ≤ 7) = true := by simp; omega
    rw [hr2] at ha ⊢
    go_enter Try.func7, Try.ntmps7
    go_wp2_with (first | (go_at_call 17; refine (ha.out _).mono ?_; rintro e w1 ⟨rfl, rfl⟩))
    go_ret
    exact ⟨by simp, rfl⟩
  · have hr2 : decide (1 ≤ a ∧ a ≤ 7) = false := by simp; omega
    rw [hr2] at ha ⊢
    go_enter Try.func7, Try.ntmps7
    go_wp2_with (first | (go_at_call 17; refine (ha.out _).mono ?_; rintro e w1 ⟨rfl, rfl⟩))
    go_ret
    exact ⟨by simp, rfl⟩
end
end Go.Proofs.Ytciplhpnbpmfeaa.Rgt

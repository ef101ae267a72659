/- Contract of the bucket's Tokens. -/
import Derived.Test.YtgjofinbdigmcaaBukTell
namespace Go.Proofs.Ytgjofinbdigmcaa.Buk
open Go.Proofs.Ytgjofinbdigmcaa.Mem
open Go.ChangeShapes Go.WideShapes Go.ChangeAt Go.RowKit
set_option linter.unusedVariables false
set_option linter.unusedSimpArgs false
theorem rcl_map (l : List Rgt.Tok) : Rgt.rcl l = rcl (l.map (tokR 0 1)) := by
  unfold Rgt.rcl rcl
  rw [List.flatMap_map]
  rfl
def marks (id : Int) (gen : Nat) (l : List Rgt.Tok) (k : Nat) : List Rcd := (l.take k).map (tokR id gen) ++ (l.drop k).map (tokR 0 1)
theorem marks_length (id : Int) (gen : Nat) (l : List Rgt.Tok) (k : Nat) : (marks id gen l k).length = l.length := by
  unfold marks
  rw [List.length_append, List.length_map, List.length_map, ← List.length_append, List.take_append_drop]
theorem marks_get {id : Int} {gen : Nat} {l : List Rgt.Tok} {k : Nat} (h : k < l.length) (h' : k < (marks id gen l k).length) : (marks id gen l k)[k] = tokR 0 1 l[k] := by
  apply Option.some.inj
  rw [← List.getElem?_eq_getElem h']
  unfold marks
  rw [List.getElem?_append_right (by simp; omega)]
  simp [Nat.min_eq_left (Nat.le_of_lt h), h]
theorem marks_next {id : Int} {gen : Nat} {l : List Rgt.Tok} {k : Nat} (h : k < l.length) : (marks id gen l k).set k (tokR id gen l[k]) = marks id gen l (k + 1) := by
  have hl : ((l.take k).map (tokR id gen)).length = k := by simp; omega
  unfold marks
  rw [List.drop_eq_getElem_cons h, List.take_succ_eq_append_getElem h, List.map_append, List.map_cons, List.set_append_right _ _ (by omega), hl, Nat.sub_self]
  simp
theorem marks_done (id : Int) (gen : Nat) (l : List Rgt.Tok) : marks id gen l l.length = l.map (tokR id gen) := by simp [marks]
section
variable {w w' : World} {s : Bl} {B : Bk} {T : Tab} {m : List It} {i : Nat}
theorem tokR_is {B : Bk} {T : Tab} {m : List It} {i : Nat} (o : Ok B T m i) (hg : Rgt.Good B.toks) : ∀ r ∈ B.toks.map (tokR B.id B.gen), Rec.Is r := by
  intro r hr
  obtain ⟨x, hx, rfl⟩ := List.mem_map.1 hr
  have h := hg.ok x hx
  exact ⟨by show (-9223372036854775808 : Int) ≤ 5 ∧ (5 : Int) ≤ _; omega, o.id, o.gen, by show 0 < _; omega, h.s, ⟨by show _ ≤ x.r; have := h.r; omega, by show x.r ≤ _; have := h.r; omega⟩, h.k, by show 0 ≤ _; omega, by show 0 ≤ _; omega, by show 0 < _; omega, by show 0 < _; omega⟩
theorem rrow_recs {g : Nat} {L : List Rcd} {rest : List Value} (h : RRow w g L rest) (hi : ∀ r ∈ L, Rec.Is r) : Rec.Recs w (some ⟨g, 0, none⟩) L := by
  refine ⟨hi, fun h0 => ⟨g, 0, rfl, Blk.lt h, fun k hk j u hu => ?_⟩⟩
  have hj : j < 14 := (List.getElem?_eq_some_iff.1 (show (rcs L[k])[j]? = some u by rw [← List.getElem?_toArray]; exact hu)).1
  rw [Nat.zero_add, h.cell hk hj, ← List.getElem?_toArray]
  exact hu
set_option maxRecDepth 100000 in
set_option maxHeartbeats 2000000 in
theorem tokens_any (h : BM w s B T m i) (o : Ok B T m i) : Calls Try.prog 13 #[.pointer (some ⟨s.p, 0, none⟩)] w fun e w' => ∃ a c, e = .returned (.slice a B.toks.length c) ∧ Rec.Recs w' a (B.toks.map (tokR B.id B.gen)) ∧ (∀ b off, a = some ⟨b, off, none⟩ → 0 < B.toks.length → w.heap.size ≤ b) ∧ But (fun _ => False) w w' := by
  have HIS := Lib.hid (tokR_is o h.tok.good)
  have HM := Lib.hid h
  have HLT := Lib.hid h.lt
  have k9 : w.cell? ⟨s.p, 9, none⟩ = some (.pointer (some ⟨s.tp, 0, none⟩)) := h.cell 9
  have HA := Lib.hid (Rgt.rgt_all h.tok)
  have hln : B.toks.length ≤ 100 := h.tok.good.len
  obtain ⟨n, hn⟩ : ∃ n, n = B.toks.length := ⟨_, rfl⟩
  have HN := Lib.hid hn
  rw [← hn] at hln HA ⊢
  clear h o hn
  go_enter Try.func13, Try.ntmps13
  go_wp2_with fail
  refine HA.out.mono ?_
  rintro e w1 ⟨a, c, rfl, hown, hb1⟩
  have HB1 := Lib.hid hb1
  clear k9 HA
  by_cases hz : n = 0
  · have hnil : B.toks = [] := List.eq_nil_of_length_eq_zero (by rw [← HN.out]; exact hz)
    have HNI := Lib.hid hnil
    clear hown hb1 hnil
    subst hz
    go_wp2_with fail
    go_loopw [12] (fun v wr => v = .int .i64 0 ∧ wr = w1) (fun _ _ => 0)
    case atStart => exact ⟨rfl, rfl⟩
    case round =>
      obtain ⟨rfl, rfl⟩ := hrel
      go_wp2
      go_ret
      refine ⟨a, c, rfl, ?_, fun b off _ h => absurd h (by omega), HB1.out⟩
      rw [HNI.out]
      exact Rec.Recs.nil _ _
  · obtain ⟨g, cap, rest, he, hR, hgb⟩ : ∃ g cap rest, (Value.slice a n c) = .slice (some ⟨g, 0, none⟩) n cap ∧ RRow w1 g (B.toks.map (tokR 0 1)) rest ∧ w.heap.size ≤ g := by
      have h1 := hown.1
      rcases hown.2 with ⟨_, h2⟩ | ⟨g, cap, cur, h1, h2, h3, h4, h5, h6, h7⟩
      · omega
      · refine ⟨g, cap, cur.toList.drop (n * 14), h1, ?_, h2⟩
        show w1.heap[g]? = _
        rw [← rcl_map, ← h7, List.take_append_drop, Array.toArray_toList]
        exact h3
    injection he with he1 he2 he3
    subst he1
    subst he3
    have HST := Lib.hid (show RRow w1 g (marks B.id B.gen B.toks 0) rest from by unfold marks; simpa using hR)
    have HGB := Lib.hid hgb
    have HFT := Lib.hid (show ¬ Foot s g from fun hf => by have := HLT.out g hf; omega)
    clear hown hb1 hR hgb
    go_wp2_with fail
    go_loopw [12] (fun v wr => ∃ k : Nat, k ≤ n ∧ v = .int .i64 (k : Int) ∧ RRow wr g (marks B.id B.gen B.toks k) rest ∧ But (fun _ => False) w wr) (fun v _ => n - (intOf v).toNat)
    case atStart => exact ⟨0, Nat.zero_le _, rfl, HST.out, HB1.out⟩
    case round =>
      obtain ⟨k, hk, rfl, hrow, hbw⟩ := hrel
      by_cases hlt : k < n
      · have hki : (k : Int) < (n : Int) := by omega
        have hkT : k < B.toks.length := by rw [← HN.out]; exact hlt
        have hkM : k < (marks B.id B.gen B.toks k).length := by rw [marks_length]; exact hkT
        have HC := Lib.hid (fun V (hV : But (fun j => j = g) wr V) => (And.intro (show V.cell? ⟨s.p, 0, none⟩ = some (.int .i64 B.id) from ((HM.out.new hbw).but hV (fun j hj e => HFT.out (e ▸ hj))).cell 0) (show V.cell? ⟨s.p, 1, none⟩ = some (.int .u32 (B.gen : Int)) from ((HM.out.new hbw).but hV (fun j hj e => HFT.out (e ▸ hj))).cell 1)))
        have hrd : RRow wr.drew g (marks B.id B.gen B.toks k) rest := hrow
        have hmk := hrd.mark hkM (marks_get hkT hkM) B.id B.gen
        rw [marks_next hkT] at hmk
        have HNX := Lib.hid hmk
        have HK1 := Lib.hid (show wr.drew.cell? ⟨g, k * 14 + 1, none⟩ = some (.int .i64 0) from by rw [hrd.cell hkM (by omega), marks_get hkT hkM]; rfl)
        have HK2 := Lib.hid (show (wr.drew.setCell ⟨g, k * 14 + 1, none⟩ (.int .i64 B.id)).cell? ⟨g, k * 14 + 2, none⟩ = some (.int .u32 1) from by
          have h1 := (Blk.set_ hrd (k * 14 + 1) (.int .i64 B.id)).cell (k * 14 + 2)
          rw [Array.getElem?_setIfInBounds_ne (by omega)] at h1
          have h2 := Blk.cell hrd (k * 14 + 2)
          rw [h1, ← h2, hrd.cell hkM (by omega), marks_get hkT hkM]
          rfl)
        have HFZ := Lib.hid (And.intro (Blk.frozen hrd (k * 14 + 1)) (Blk.frozen (Blk.set_ hrd (k * 14 + 1) (.int .i64 B.id)) (k * 14 + 2)))
        have HBW := Lib.hid (show But (fun _ => False) w (wr.drew.setCells g (k * 14 + 1) [.int .i64 B.id, .int .u32 (B.gen : Int)]) from hbw.drew.trans (but_setCells g _ _ _) (fun j hj e => by have := HGB.out; omega))
        have HD1 := Lib.hid ((But.refl (fun j => j = g) wr).drew)
        have HD2 := Lib.hid (((But.refl (fun j => j = g) wr).drew).setCell (p := ⟨g, k * 14 + 1, none⟩) rfl (.int .i64 B.id))
        clear hrow hbw hmk hrd
        go_wp2_with fail
        refine Late.region_goes (fun V => But (fun j => j = g) wr V) (fun j => j == 17) (by kernel_rfl) ?_ (fun hH => ?_)
        · exact HD1.out
        generalize wr.drew = V0 at HK1 HK2 HFZ HNX HBW HD1 HD2 hH ⊢
        refine Late.Goes.takeT (i := 0) (v := ?_) (by simp only [List.getElem?_toArray, List.getElem?_cons_succ, List.getElem?_cons_zero]; rfl) (by kernel_rfl) (by kernel_rfl) (by kernel_rfl) (by kernel_rfl) (by kernel_rfl) (by exact fun _ _ _ h => h) (Or.inl ⟨by rfl, ?_⟩) hH ?_
        rotate_left
        · (intro wy hSw; (try dsimp only at hSw); have k0 := (HC.out wy hSw).1; have k1 := (HC.out wy hSw).2; go_simp; try (with_reducible rfl))
        try simp only [Act.put, List.setIfInBounds_toArray, List.set_cons_zero, List.set_cons_succ]
        refine Late.Goes.takeT (i := 1) (v := ?_) (by simp only [List.getElem?_toArray, List.getElem?_cons_succ, List.getElem?_cons_zero]; rfl) (by kernel_rfl) (by kernel_rfl) (by kernel_rfl) (by kernel_rfl) (by kernel_rfl) (by exact fun _ _ _ h => h) (Or.inl ⟨by rfl, ?_⟩) hH ?_
        rotate_left
        · (intro wy hSw; (try dsimp only at hSw); have k0 := (HC.out wy hSw).1; have k1 := (HC.out wy hSw).2; go_simp; try (with_reducible rfl))
        try simp only [Act.put, List.setIfInBounds_toArray, List.set_cons_zero, List.set_cons_succ]
        refine Late.Goes.takeT (i := 2) (v := ?_) (by simp only [List.getElem?_toArray, List.getElem?_cons_succ, List.getElem?_cons_zero]; rfl) (by kernel_rfl) (by kernel_rfl) (by kernel_rfl) (by kernel_rfl) (by kernel_rfl) (by exact fun _ _ _ h => h) (Or.inl ⟨by rfl, ?_⟩) hH ?_
        rotate_left
        · (intro wy hSw; (try dsimp only at hSw); have k0 := (HC.out wy hSw).1; have k1 := (HC.out wy hSw).2; go_simp; try (with_reducible rfl))
        try simp only [Act.put, List.setIfInBounds_toArray, List.set_cons_zero, List.set_cons_succ]
        refine Late.Goes.takeT (i := 3) (v := ?_) (by simp only [List.getElem?_toArray, List.getElem?_cons_succ, List.getElem?_cons_zero]; rfl) (by kernel_rfl) (by kernel_rfl) (by kernel_rfl) (by kernel_rfl) (by kernel_rfl) (by exact fun _ _ _ h => h) (Or.inl ⟨by rfl, ?_⟩) hH ?_
        rotate_left
        · (intro wy hSw; (try dsimp only at hSw); have k0 := (HC.out wy hSw).1; have k1 := (HC.out wy hSw).2; go_simp; try (with_reducible rfl))
        try simp only [Act.put, List.setIfInBounds_toArray, List.set_cons_zero, List.set_cons_succ]
        refine Late.Goes.takeT (i := 4) (v := ?_) (by simp only [List.getElem?_toArray, List.getElem?_cons_succ, List.getElem?_cons_zero]; rfl) (by kernel_rfl) (by kernel_rfl) (by kernel_rfl) (by kernel_rfl) (by kernel_rfl) (by exact fun _ _ _ h => h) (Or.inl ⟨by rfl, ?_⟩) hH ?_
        rotate_left
        · (intro wy hSw; (try dsimp only at hSw); have k0 := (HC.out wy hSw).1; have k1 := (HC.out wy hSw).2; go_simp; try (with_reducible rfl))
        try simp only [Act.put, List.setIfInBounds_toArray, List.set_cons_zero, List.set_cons_succ]
        refine Late.Goes.takeT (i := 5) (v := ?_) (by simp only [List.getElem?_toArray, List.getElem?_cons_succ, List.getElem?_cons_zero]; rfl) (by kernel_rfl) (by kernel_rfl) (by kernel_rfl) (by kernel_rfl) (by kernel_rfl) (by exact fun _ _ _ h => h) (Or.inl ⟨by rfl, ?_⟩) hH ?_
        rotate_left
        · (intro wy hSw; (try dsimp only at hSw); have k0 := (HC.out wy hSw).1; have k1 := (HC.out wy hSw).2; go_simp; try (with_reducible rfl))
        try simp only [Act.put, List.setIfInBounds_toArray, List.set_cons_zero, List.set_cons_succ]
        refine Late.Goes.takeT (i := 6) (v := ?_) (by simp only [List.getElem?_toArray, List.getElem?_cons_succ, List.getElem?_cons_zero]; rfl) (by kernel_rfl) (by kernel_rfl) (by kernel_rfl) (by kernel_rfl) (by kernel_rfl) (by exact fun _ _ _ h => h) (Or.inl ⟨by rfl, ?_⟩) hH ?_
        rotate_left
        · (intro wy hSw; (try dsimp only at hSw); have k0 := (HC.out wy hSw).1; have k1 := (HC.out wy hSw).2; go_simp; try (with_reducible rfl))
        try simp only [Act.put, List.setIfInBounds_toArray, List.set_cons_zero, List.set_cons_succ]
        refine Late.Goes.takeT (i := 7) (v := ?_) (by simp only [List.getElem?_toArray, List.getElem?_cons_succ, List.getElem?_cons_zero]; rfl) (by kernel_rfl) (by kernel_rfl) (by kernel_rfl) (by kernel_rfl) (by kernel_rfl) (by exact fun _ _ _ h => h) (Or.inl ⟨by rfl, ?_⟩) hH ?_
        rotate_left
        · (intro wy hSw; (try dsimp only at hSw); have k0 := (HC.out wy hSw).1; have k1 := (HC.out wy hSw).2; go_simp; try (with_reducible rfl))
        try simp only [Act.put, List.setIfInBounds_toArray, List.set_cons_zero, List.set_cons_succ]
        refine Late.Goes.takeT (i := 8) (v := ?_) (by simp only [List.getElem?_toArray, List.getElem?_cons_succ, List.getElem?_cons_zero]; rfl) (by kernel_rfl) (by kernel_rfl) (by kernel_rfl) (by kernel_rfl) (by kernel_rfl) (by exact fun _ _ _ h => h) (Or.inl ⟨by rfl, ?_⟩) hH ?_
        rotate_left
        · (intro wy hSw; (try dsimp only at hSw); have k0 := (HC.out wy hSw).1; have k1 := (HC.out wy hSw).2; go_simp; try (with_reducible rfl))
        try simp only [Act.put, List.setIfInBounds_toArray, List.set_cons_zero, List.set_cons_succ]
        refine Late.Goes.takeT (i := 9) (v := ?_) (by simp only [List.getElem?_toArray, List.getElem?_cons_succ, List.getElem?_cons_zero]; rfl) (by kernel_rfl) (by kernel_rfl) (by kernel_rfl) (by kernel_rfl) (by kernel_rfl) (by exact fun _ _ _ h => h) (Or.inl ⟨by rfl, ?_⟩) hH ?_
        rotate_left
        · (intro wy hSw; (try dsimp only at hSw); have k0 := (HC.out wy hSw).1; have k1 := (HC.out wy hSw).2; go_simp; try (with_reducible rfl))
        try simp only [Act.put, List.setIfInBounds_toArray, List.set_cons_zero, List.set_cons_succ]
        refine Late.Goes.takeT (i := 10) (v := ?_) (by simp only [List.getElem?_toArray, List.getElem?_cons_succ, List.getElem?_cons_zero]; rfl) (by kernel_rfl) (by kernel_rfl) (by kernel_rfl) (by kernel_rfl) (by kernel_rfl) (by exact fun _ _ _ h => h) (Or.inl ⟨by rfl, ?_⟩) hH ?_
        rotate_left
        · (intro wy hSw; (try dsimp only at hSw); have k0 := (HC.out wy hSw).1; have k1 := (HC.out wy hSw).2; go_simp; try (with_reducible rfl))
        try simp only [Act.put, List.setIfInBounds_toArray, List.set_cons_zero, List.set_cons_succ]
        refine Late.Goes.takeT (i := 11) (v := ?_) (by simp only [List.getElem?_toArray, List.getElem?_cons_succ, List.getElem?_cons_zero]; rfl) (by kernel_rfl) (by kernel_rfl) (by kernel_rfl) (by kernel_rfl) (by kernel_rfl) (by exact fun _ _ _ h => h) (Or.inl ⟨by rfl, ?_⟩) hH ?_
        rotate_left
        · (intro wy hSw; (try dsimp only at hSw); have k0 := (HC.out wy hSw).1; have k1 := (HC.out wy hSw).2; go_simp; try (with_reducible rfl))
        try simp only [Act.put, List.setIfInBounds_toArray, List.set_cons_zero, List.set_cons_succ]
        refine Late.Goes.takeT (i := 12) (v := ?_) (by simp only [List.getElem?_toArray, List.getElem?_cons_succ, List.getElem?_cons_zero]; rfl) (by kernel_rfl) (by kernel_rfl) (by kernel_rfl) (by kernel_rfl) (by kernel_rfl) (by exact fun _ _ _ h => h) (Or.inl ⟨by rfl, ?_⟩) hH ?_
        rotate_left
        · (intro wy hSw; (try dsimp only at hSw); have k0 := (HC.out wy hSw).1; have k1 := (HC.out wy hSw).2; go_simp; try (with_reducible rfl))
        try simp only [Act.put, List.setIfInBounds_toArray, List.set_cons_zero, List.set_cons_succ]
        refine Late.Goes.takeT (i := 13) (v := ?_) (by simp only [List.getElem?_toArray, List.getElem?_cons_succ, List.getElem?_cons_zero]; rfl) (by kernel_rfl) (by kernel_rfl) (by kernel_rfl) (by kernel_rfl) (by kernel_rfl) (by exact fun _ _ _ h => h) (Or.inl ⟨by rfl, ?_⟩) hH ?_
        rotate_left
        · (intro wy hSw; (try dsimp only at hSw); have k0 := (HC.out wy hSw).1; have k1 := (HC.out wy hSw).2; go_simp; try (with_reducible rfl))
        try simp only [Act.put, List.setIfInBounds_toArray, List.set_cons_zero, List.set_cons_succ]
        have c1 := HK1.out
        have f1 := HFZ.out.1
        refine Late.Goes.one (i := 14) (by kernel_rfl) (by simp only [List.getElem?_toArray, List.getElem?_cons_succ, List.getElem?_cons_zero]; rfl) (fun K hK => ?_)
        clear hH
        go_simp
        clear c1 f1
        refine hK.out _ _ ?_ (fun hH => ?_)
        · exact fun _ => HD2.out
        clear hK K
        have hH := hH rfl
        try simp only [Act.put, List.setIfInBounds_toArray, List.set_cons_zero, List.set_cons_succ]
        refine Late.Goes.takeT (i := 15) (v := ?_) (by simp only [List.getElem?_toArray, List.getElem?_cons_succ, List.getElem?_cons_zero]; rfl) (by kernel_rfl) (by kernel_rfl) (by kernel_rfl) (by kernel_rfl) (by kernel_rfl) (by exact fun _ _ _ h => h) (Or.inl ⟨by rfl, ?_⟩) hH ?_
        rotate_left
        · (intro wy hSw; (try dsimp only at hSw); have k0 := (HC.out wy hSw).1; have k1 := (HC.out wy hSw).2; go_simp; try (with_reducible rfl))
        try simp only [Act.put, List.setIfInBounds_toArray, List.set_cons_zero, List.set_cons_succ]
        refine Late.Goes.takeT (i := 16) (v := ?_) (by simp only [List.getElem?_toArray, List.getElem?_cons_succ, List.getElem?_cons_zero]; rfl) (by kernel_rfl) (by kernel_rfl) (by kernel_rfl) (by kernel_rfl) (by kernel_rfl) (by exact fun _ _ _ h => h) (Or.inl ⟨by rfl, ?_⟩) hH ?_
        rotate_left
        · (intro wy hSw; (try dsimp only at hSw); have k0 := (HC.out wy hSw).1; have k1 := (HC.out wy hSw).2; go_simp; try (with_reducible rfl))
        try simp only [Act.put, List.setIfInBounds_toArray, List.set_cons_zero, List.set_cons_succ]
        have c1 := HK2.out
        have f1 := HFZ.out.2
        refine Late.Goes.one (i := 17) (by kernel_rfl) (by simp only [List.getElem?_toArray, List.getElem?_cons_succ, List.getElem?_cons_zero]; rfl) (fun K hK => ?_)
        clear hH
        go_simp
        clear c1 f1
        change K (_ : Act) (V0.setCells g (k * 14 + 1) [.int .i64 B.id, .int .u32 (B.gen : Int)])
        refine hK.out _ _ ?_ (fun _ => ?_)
        · exact fun h => by cases h
        clear hK K
        try simp only [Act.put, List.setIfInBounds_toArray, List.set_cons_zero, List.set_cons_succ]
        refine Late.Goes.done (by kernel_rfl) ?_ _
        generalize V0.setCells g (k * 14 + 1) [.int .i64 B.id, .int .u32 (B.gen : Int)] = W5 at HNX HBW ⊢
        go_wp2_with fail
        go_roundw
        case rel => exact ⟨k + 1, by omega, by go_num, HNX.out, HBW.out⟩
        case measure => simp [intOf]; omega
      · have hkn : k = n := by omega
        subst hkn
        rw [HN.out, marks_done] at hrow
        have HE := Lib.hid (And.intro (rrow_recs hrow HIS.out) hbw)
        clear hrow hbw
        go_wp2_with fail
        go_ret
        exact ⟨_, _, rfl, HE.out.1, fun b off e _ => by injection e with e; injection e with e1 e2; rw [← e1]; exact HGB.out, HE.out.2⟩
end
end Go.Proofs.Ytgjofinbdigmcaa.Buk

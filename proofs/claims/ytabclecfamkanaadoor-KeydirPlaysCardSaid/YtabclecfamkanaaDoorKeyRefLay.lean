/- The document's table: an entry laid. -/
import Derived.Test.YtabclecfamkanaaDoorKeyRefNew
namespace Go.Proofs.YtabclecfamkanaaDoor.Key
open Go.Proofs.YtabclecfamkanaaDoor.Mem Go.Proofs.YtabclecfamkanaaDoor.Fnv
open Go.ChangeShapes Go.WideShapes Go.ChangeAt Go.RowKit
set_option linter.unusedVariables false
set_option linter.unusedSimpArgs false
theorem yields_rentry {ops : Array Oper} {S : World → Prop} {op : Oper} {a : Act} (hw : Region.wanted op (yielded ops a.tmps) = true) (x : Operand) (ho : op.op = .load 38 x) (b o : Nat) (hx : a.eval x = .pointer (some ⟨b, o, none⟩)) (q : Ent) (hS : ∀ w, S w → w.rangeAt b o (ecells q)) : YieldsIf Tryd.prog ops S op (ev q) a :=
  yieldsIf_load_mid hw _ x ho b o hx (ecells q) _ hS Tryd.underlying38 rfl (by rw [ecells_length]; exact rentry_size)
section
variable {w w' : World} {rp gl gu n : Nat} {T : Tab} {X : List Ent}
theorem RLo.mark (h : RLo w rp gl gu T X n) {m : Nat} (hm : m < n) (b : Bool) : Blk (w.setCell ⟨gu, m, none⟩ (.bool b)) gu 4 ((T.map ubit).set m (.bool b)).toArray := by
  have := h.urow.set_ m (.bool b)
  simpa using this
theorem RLo.laid (h : RLo w rp gl gu T X n) {m : Nat} (hm : m < n) (e : Ent) (hs : e.key.size ≤ 100) : RLo ((w.setCells gl (m * 7) (ecells e)).setCell ⟨gu, m, none⟩ (.bool true)) rp gl gu (T.set m (some e)) (X.set m e) n := by
  have b1 := but_setCells gl (ecells e) (m * 7) w
  have b2 : But (fun k => k = gu) (w.setCells gl (m * 7) (ecells e)) ((w.setCells gl (m * 7) (ecells e)).setCell ⟨gu, m, none⟩ (.bool true)) := (But.refl (fun k => k = gu) _).setCell (p := ⟨gu, m, none⟩) rfl (.bool true)
  have n1 : rp ≠ gl := h.blk.ne_ h.lrow (by decide)
  have n2 : rp ≠ gu := h.blk.ne_ h.urow (by decide)
  have n3 : gl ≠ gu := h.lrow.ne_ h.urow (by decide)
  refine ⟨(h.blk.but b1 n1).but b2 n2, ?_, ?_, by rw [List.length_set]; exact h.len, by rw [List.length_set]; exact h.xlen, ?_, h.few, h.pow, ?_⟩
  · have := blk_put ecells_length h.lrow (i := m) (by rw [h.xlen]; exact hm) e
    exact this.but b2 n3
  · have := (h.urow.but b1 (Ne.symm n3)).set_ m (.bool true)
    rw [List.map_set, show ubit (some e) = .bool true from rfl]
    simpa using this
  · intro j f hf
    by_cases hj : m = j
    · subst hj
      rw [look_set_same (by rw [h.len]; exact hm)] at hf
      injection hf with hf
      subst hf
      simp [h.xlen, hm]
    · rw [look_set_ne hj] at hf
      rw [List.getElem?_set_ne hj]
      exact h.same j f hf
  · intro f hf
    rcases List.mem_or_eq_of_mem_set hf with h1 | h1
    · exact h.small f h1
    · injection h1 with h1
      rw [h1]; exact hs
set_option maxRecDepth 100000 in
set_option maxHeartbeats 1000000 in
theorem rlay_any (h : RLo w rp gl gu T X n) (hf : free T) (e : Ent) (hs : e.key.size ≤ 100) :
    Calls Tryd.prog 23 #[.pointer (some ⟨rp, 0, none⟩), ev e] w fun x w' => x = .returned (.tuple #[]) ∧ RLo w' rp gl gu (lay T e) (X.set (find T e.key) e) n ∧ But (fun k => k = gl ∨ k = gu) w w' := by
  obtain ⟨l1, l2⟩ := h.few
  have hfl := find_lt (show 0 < T.length by rw [h.len]; omega) e.key
  rw [h.len] at hfl
  have HB0 := Lib.hid ((But.refl (fun _ => False) w).alloc (.cells (ecells e).toArray 38))
  have HE0 := Lib.hid (show Blk (w.alloc (.cells (ecells e).toArray 38)) w.heap.size 38 (ecells e).toArray from Blk.new _ _ _)
  have HA0 := Lib.hid (h.but HB0.out (fun h => h) (fun h => h) (fun h => h))
  have HF := Lib.hid (rfind_any HA0.out hf e.key hs)
  have HBW := Lib.hid h.blk.lt
  obtain ⟨m, hm⟩ : ∃ m, m = find T e.key := ⟨_, rfl⟩
  rw [← hm] at hfl HF
  have HLD := Lib.hid (show lay T e = T.set m (some e) by rw [hm]; rfl)
  rw [← hm]
  clear hm h hf
  change Calls _ _ #[.pointer (some ⟨rp, 0, none⟩), .agg #[.string e.key, .int .i64 e.seg, .int .i64 e.at_, .int .i64 e.len, .int .u64 (e.ver : Int), .int .u64 (e.exp : Int), .int .i64 e.size]] w _
  go_enter Tryd.func23, Tryd.ntmps23
  go_wp2_with fail
  change Calls _ _ _ (w.alloc (.cells (ecells e).toArray 38)) _
  refine HF.out.mono ?_
  rintro x w' ⟨rfl, rfl⟩
  obtain ⟨b3, hb3⟩ : ∃ b, b = w.heap.size := ⟨_, rfl⟩
  rw [← hb3] at HE0 ⊢
  have HB3 := Lib.hid hb3
  clear hb3 HF
  generalize w.alloc (.cells (ecells e).toArray 38) = W9 at HE0 HB0 HA0 ⊢
  go_wp2_with fail
  have HD := Lib.hid ((But.refl (fun _ => False) W9).drew)
  have HA8 := Lib.hid (HA0.out.but HD.out (fun h => h) (fun h => h) (fun h => h))
  have HE8 := Lib.hid (HE0.out.but HD.out (fun h => h))
  have HCP := Lib.hid (show W9.drew.cell? ⟨rp, 0, none⟩ = some (.slice (some ⟨gl, 0, none⟩) n n) from HA8.out.blk.cell 0)
  have HR := Lib.hid (ent_range HE8.out)
  have HTH := Lib.hid (blk_there ecells_length HA8.out.lrow (i := m) (by rw [HA8.out.xlen]; exact hfl))
  have HST := Lib.hid (HA8.out.laid hfl e hs)
  have hmi : (m : Int) < (n : Int) := by omega
  have HCU := Lib.hid (show (W9.drew.setCells gl (m * 7) (ecells e)).cell? ⟨rp, 1, none⟩ = some (.slice (some ⟨gu, 0, none⟩) n n) from (HA8.out.blk.but (but_setCells gl (ecells e) (m * 7) _) (HA8.out.blk.ne_ HA8.out.lrow (by decide))).cell 1)
  have HFU := Lib.hid (show (W9.drew.setCells gl (m * 7) (ecells e)).frozen? ⟨gu, m, none⟩ = false from (HA8.out.urow.but (but_setCells gl (ecells e) (m * 7) _) (fun e => HA8.out.lrow.ne_ HA8.out.urow (by decide) e.symm)).frozen m)
  have HXU := Lib.hid (show (W9.drew.setCells gl (m * 7) (ecells e)).cell? ⟨gu, m, none⟩ = some (.bool (look T m).isSome) from by
    rw [(but_setCells gl (ecells e) (m * 7) W9.drew).cell HA8.out.urow.lt (fun e => HA8.out.lrow.ne_ HA8.out.urow (by decide) e.symm)]
    exact HA8.out.used hfl)
  have HBB := Lib.hid (show But (fun k => k = gl ∨ k = gu) w ((W9.drew.setCells gl (m * 7) (ecells e)).setCell ⟨gu, m, none⟩ (.bool true)) from
    (((HB0.out.trans HD.out (fun j hj h => h)).mono (T := fun k => k = gl ∨ k = gu) (fun j hj h => h.elim)).trans (but_setCells gl (ecells e) (m * 7) _) (fun j hj h => .inl h)).setCell (p := ⟨gu, m, none⟩) (.inr rfl) (.bool true))
  refine Late.region_goes (fun V => V = W9.drew) (fun i => i == 7) (by kernel_rfl) ?_ (fun hH => ?_)
  · rfl
  refine Late.Goes.takeT (i := 0) (v := ?_) (by simp only [List.getElem?_toArray, List.getElem?_cons_succ, List.getElem?_cons_zero]; rfl) (by kernel_rfl) (by kernel_rfl) (by kernel_rfl) (by kernel_rfl) (by kernel_rfl) (by exact fun _ _ _ h => h) (Or.inl ⟨by rfl, ?_⟩) hH ?_
  rotate_left
  · (intro wy hSw; (try dsimp only at hSw); subst hSw; have k0 := HCP.out; go_simp; try (with_reducible rfl))
  try simp only [Act.put, List.setIfInBounds_toArray, List.set_cons_zero, List.set_cons_succ]
  refine Late.Goes.takeT (i := 1) (v := ?_) (by simp only [List.getElem?_toArray, List.getElem?_cons_succ, List.getElem?_cons_zero]; rfl) (by kernel_rfl) (by kernel_rfl) (by kernel_rfl) (by kernel_rfl) (by kernel_rfl) (by exact fun _ _ _ h => h) (Or.inl ⟨by rfl, ?_⟩) hH ?_
  rotate_left
  · (intro wy hSw; (try dsimp only at hSw); subst hSw; have k0 := HCP.out; go_simp; try (with_reducible rfl))
  try simp only [Act.put, List.setIfInBounds_toArray, List.set_cons_zero, List.set_cons_succ]
  refine Late.Goes.takeT (i := 2) (v := ?_) (by simp only [List.getElem?_toArray, List.getElem?_cons_succ, List.getElem?_cons_zero]; rfl) (by kernel_rfl) (by kernel_rfl) (by kernel_rfl) (by kernel_rfl) (by kernel_rfl) (by exact fun _ _ _ h => h) (Or.inl ⟨by rfl, ?_⟩) hH ?_
  rotate_left
  · (intro wy hSw; (try dsimp only at hSw); subst hSw; have k0 := HCP.out; go_simp; try (with_reducible rfl))
  try simp only [Act.put, List.setIfInBounds_toArray, List.set_cons_zero, List.set_cons_succ]
  refine Late.Goes.takeT (i := 3) (v := ?_) (by simp only [List.getElem?_toArray, List.getElem?_cons_succ, List.getElem?_cons_zero]; rfl) (by kernel_rfl) (by kernel_rfl) (by kernel_rfl) (by kernel_rfl) (by kernel_rfl) (by exact fun _ _ _ h => h) (Or.inl ⟨by rfl, ?_⟩) hH ?_
  rotate_left
  · (intro wy hSw; (try dsimp only at hSw); subst hSw; have k0 := HCP.out; go_simp; try (with_reducible rfl))
  try simp only [Act.put, List.setIfInBounds_toArray, List.set_cons_zero, List.set_cons_succ]
  refine Late.Goes.takeT (i := 4) (v := ?_) (by simp only [List.getElem?_toArray, List.getElem?_cons_succ, List.getElem?_cons_zero]; rfl) (by kernel_rfl) (by kernel_rfl) (by kernel_rfl) (by kernel_rfl) (by kernel_rfl) (by exact fun _ _ _ h => h) (Or.inl ⟨by rfl, ?_⟩) hH ?_
  rotate_left
  · (intro wy hSw; (try dsimp only at hSw); subst hSw; have k0 := HCP.out; go_simp; try (with_reducible rfl))
  try simp only [Act.put, List.setIfInBounds_toArray, List.set_cons_zero, List.set_cons_succ]
  refine Late.Goes.takeT (i := 5) (v := _) (by simp only [List.getElem?_toArray, List.getElem?_cons_succ, List.getElem?_cons_zero]; rfl) (by kernel_rfl) (by kernel_rfl) (by kernel_rfl) (by kernel_rfl) (by kernel_rfl) (by exact fun _ _ _ h => h) (yields_rentry (by rfl) _ rfl b3 0 rfl e (fun V hV => by rw [hV]; exact HR.out)) hH ?_
  try simp only [Act.put, List.setIfInBounds_toArray, List.set_cons_zero, List.set_cons_succ]
  refine Late.Goes.takeT (i := 6) (v := ?_) (by simp only [List.getElem?_toArray, List.getElem?_cons_succ, List.getElem?_cons_zero]; rfl) (by kernel_rfl) (by kernel_rfl) (by kernel_rfl) (by kernel_rfl) (by kernel_rfl) (by exact fun _ _ _ h => h) (Or.inl ⟨by rfl, ?_⟩) hH ?_
  rotate_left
  · (intro wy hSw; (try dsimp only at hSw); subst hSw; have k0 := HCP.out; go_simp; try (with_reducible rfl))
  try simp only [Act.put, List.setIfInBounds_toArray, List.set_cons_zero, List.set_cons_succ]
  refine Late.Goes.one (i := 7) (by kernel_rfl) (by simp only [List.getElem?_toArray, List.getElem?_cons_succ, List.getElem?_cons_zero]; rfl) (fun K hK => ?_)
  clear hH
  refine wp_store_blk (by rfl) 38 _ _ rfl gl (m * 7) (ecells e) rfl rfl (by rw [ecells_length]; exact HTH.out) (by rw [ecells_length]; exact rentry_size) (ecells_one _) ?_
  generalize W9.drew.setCells gl (m * 7) (ecells e) = W10 at HST HCU HFU HXU HBB ⊢
  refine hK.out _ _ ?_ (fun _ => ?_)
  · exact fun h => by cases h
  clear hK K
  try simp only [Act.put, List.setIfInBounds_toArray, List.set_cons_zero, List.set_cons_succ]
  refine Late.Goes.done (by kernel_rfl) ?_ _
  have k1 := HCU.out
  have k2 := HFU.out
  have k3 := HXU.out
  go_wp2_with fail
  go_end0
  exact ⟨rfl, by rw [HLD.out]; exact HST.out, HBB.out⟩
end
end Go.Proofs.YtabclecfamkanaaDoor.Key

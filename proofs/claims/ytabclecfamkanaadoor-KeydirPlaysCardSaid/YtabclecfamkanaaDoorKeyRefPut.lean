/- The document's table: an entry put. -/
import Derived.Test.YtabclecfamkanaaDoorKeyRefDel
namespace Go.Proofs.YtabclecfamkanaaDoor.Key
open Go.Proofs.YtabclecfamkanaaDoor.Mem Go.Proofs.YtabclecfamkanaaDoor.Fnv
open Go.ChangeShapes Go.WideShapes Go.ChangeAt Go.RowKit
set_option linter.unusedVariables false
set_option linter.unusedSimpArgs false
section
variable {w w' : World} {rp ol ou n i : Nat} {T : Tab} {X : List Ent}
def RPut (w : World) (rp ol ou : Nat) (T : Tab) (e : Ent) (w' : World) : Prop :=
  ∃ gl gu X' n', RLo w' rp gl gu (put T e) X' n' ∧ (gl = ol ∨ w.heap.size ≤ gl) ∧ (gu = ou ∨ w.heap.size ≤ gu) ∧ But (fun k => k = rp ∨ k = ol ∨ k = ou) w w'
theorem RLo.swap {w : World} {rp ol ou n np gl gu m : Nat} {T T' : Tab} {X X' : List Ent} (h : RLo w rp ol ou T X n) (h' : RLo w np gl gu T' X' m) : RLo ((w.setCell ⟨rp, 0, none⟩ (.slice (some ⟨gl, 0, none⟩) m m)).setCell ⟨rp, 1, none⟩ (.slice (some ⟨gu, 0, none⟩) m m)) rp gl gu T' X' m := by
  have b : But (fun k => k = rp) w ((w.setCell ⟨rp, 0, none⟩ (.slice (some ⟨gl, 0, none⟩) m m)).setCell ⟨rp, 1, none⟩ (.slice (some ⟨gu, 0, none⟩) m m)) := ((But.refl (fun k => k = rp) w).setCell (p := ⟨rp, 0, none⟩) rfl _).setCell (p := ⟨rp, 1, none⟩) rfl _
  exact ⟨(h.blk.set_ 0 _).set_ 1 _, h'.lrow.but b (fun e => h.blk.ne_ h'.lrow (by decide) e.symm), h'.urow.but b (fun e => h.blk.ne_ h'.urow (by decide) e.symm), h'.len, h'.xlen, h'.same, h'.few, h'.pow, h'.small⟩
set_option maxRecDepth 100000 in
set_option maxHeartbeats 4000000 in
theorem rput_there (h : RLo w rp ol ou T X n) (hg : Good T i) (hi : i + 1 ≤ 400) (e : Ent) (hs : e.key.size ≤ 100) (f : Ent) (ha : ask T e.key = some f) :
    Calls Tryd.prog 11 #[.pointer (some ⟨rp, 0, none⟩), ev e] w fun x w' => x = .returned (.tuple #[]) ∧ RPut w rp ol ou T e w' := by
  obtain ⟨l1, l2⟩ := h.few
  have hfl := find_lt (show 0 < T.length by rw [h.len]; omega) e.key
  rw [h.len] at hfl
  have hcl := cnt_le T
  rw [h.len] at hcl
  have HB0 := Lib.hid ((But.refl (fun _ => False) w).alloc (.cells (ecells e).toArray 38))
  have HE0 := Lib.hid (show Blk (w.alloc (.cells (ecells e).toArray 38)) w.heap.size 38 (ecells e).toArray from Blk.new _ _ _)
  have HA0 := Lib.hid (h.but HB0.out (fun h => h) (fun h => h) (fun h => h))
  have HGD := Lib.hid hg
  have HAK := Lib.hid ha
  have hl : look T (find T e.key) = some f := ha
  obtain ⟨m, hm⟩ : ∃ m, m = find T e.key := ⟨_, rfl⟩
  have HM := Lib.hid hm
  rw [← hm] at hl hfl
  have HLO := Lib.hid hl
  clear hm h hg hl
  change Calls _ _ #[.pointer (some ⟨rp, 0, none⟩), .agg #[.string e.key, .int .i64 e.seg, .int .i64 e.at_, .int .i64 e.len, .int .u64 (e.ver : Int), .int .u64 (e.exp : Int), .int .i64 e.size]] w _
  go_enter Tryd.func11, Tryd.ntmps11
  go_wp2_with fail
  change Code.wp _ _ _ _ (w.alloc (.cells (ecells e).toArray 38))
  obtain ⟨b3, hb3⟩ : ∃ b, b = w.heap.size := ⟨_, rfl⟩
  rw [← hb3] at HE0 ⊢
  have HB3 := Lib.hid hb3
  clear hb3
  generalize w.alloc (.cells (ecells e).toArray 38) = W at HE0 HB0 HA0 ⊢
  have HD := Lib.hid ((But.refl (fun _ => False) W).drew)
  have HA := Lib.hid (HA0.out.but HD.out (fun h => h) (fun h => h) (fun h => h))
  have HE := Lib.hid (HE0.out.but HD.out (fun h => h))
  have HB := Lib.hid (HB0.out.trans HD.out (fun j hj h => h))
  have HF := Lib.hid (rfind_any HA.out HGD.out.free e.key hs)
  rw [← HM.out] at HF
  have HC0 := Lib.hid (show W.drew.cell? ⟨rp, 0, none⟩ = some (.slice (some ⟨ol, 0, none⟩) n n) from HA.out.blk.cell 0)
  have HC1 := Lib.hid (show W.drew.cell? ⟨rp, 1, none⟩ = some (.slice (some ⟨ou, 0, none⟩) n n) from HA.out.blk.cell 1)
  have HCU := Lib.hid (show W.drew.cell? ⟨ou, m, none⟩ = some (.bool true) by have := HA.out.used hfl; rw [HLO.out] at this; exact this)
  have HCK := Lib.hid (show W.drew.cell? ⟨b3, 0, none⟩ = some (.string e.key) from HE.out.cell 0)
  have hmi : (m : Int) < (n : Int) := by omega
  clear HA0 HB0 HE0 HD
  refine Late.region_goes (fun V => V = W.drew) (fun _ => false) (by kernel_rfl) ?_ (fun hH => ?_)
  · rfl
  refine Late.Goes.takeT (i := 0) (v := ?_) (by simp only [List.getElem?_toArray, List.getElem?_cons_succ, List.getElem?_cons_zero]; rfl) (by kernel_rfl) (by kernel_rfl) (by kernel_rfl) (by kernel_rfl) (by kernel_rfl) (by exact fun _ _ _ h => h) (Or.inl ⟨by rfl, ?_⟩) hH ?_
  rotate_left
  · (intro wy hSw; (try dsimp only at hSw); subst hSw; have k0 := HC0.out; have k1 := HC1.out; have k2 := HCU.out; have k3 := HCK.out; go_simp; try (with_reducible rfl))
  try simp only [Act.put, List.setIfInBounds_toArray, List.set_cons_zero, List.set_cons_succ]
  refine Late.Goes.takeT (i := 1) (v := ?_) (by simp only [List.getElem?_toArray, List.getElem?_cons_succ, List.getElem?_cons_zero]; rfl) (by kernel_rfl) (by kernel_rfl) (by kernel_rfl) (by kernel_rfl) (by kernel_rfl) (by exact fun _ _ _ h => h) (Or.inl ⟨by rfl, ?_⟩) hH ?_
  rotate_left
  · (intro wy hSw; (try dsimp only at hSw); subst hSw; have k0 := HC0.out; have k1 := HC1.out; have k2 := HCU.out; have k3 := HCK.out; go_simp; try (with_reducible rfl))
  try simp only [Act.put, List.setIfInBounds_toArray, List.set_cons_zero, List.set_cons_succ]
  refine Late.Goes.takeT (i := 2) (v := ?_) (by simp only [List.getElem?_toArray, List.getElem?_cons_succ, List.getElem?_cons_zero]; rfl) (by kernel_rfl) (by kernel_rfl) (by kernel_rfl) (by kernel_rfl) (by kernel_rfl) (by exact fun _ _ _ h => h) (Or.inl ⟨by rfl, ?_⟩) hH ?_
  rotate_left
  · (intro wy hSw; (try dsimp only at hSw); subst hSw; have k0 := HC0.out; have k1 := HC1.out; have k2 := HCU.out; have k3 := HCK.out; go_simp; try (with_reducible rfl))
  try simp only [Act.put, List.setIfInBounds_toArray, List.set_cons_zero, List.set_cons_succ]
  refine Late.Goes.takeT (i := 3) (v := ?_) (by simp only [List.getElem?_toArray, List.getElem?_cons_succ, List.getElem?_cons_zero]; rfl) (by kernel_rfl) (by kernel_rfl) (by kernel_rfl) (by kernel_rfl) (by kernel_rfl) (by exact fun _ _ _ h => h) (Or.inl ⟨by rfl, ?_⟩) hH ?_
  rotate_left
  · (intro wy hSw; (try dsimp only at hSw); subst hSw; have k0 := HC0.out; have k1 := HC1.out; have k2 := HCU.out; have k3 := HCK.out; go_simp; try (with_reducible rfl))
  try simp only [Act.put, List.setIfInBounds_toArray, List.set_cons_zero, List.set_cons_succ]
  refine Late.Goes.takeT (i := 4) (v := ?_) (by simp only [List.getElem?_toArray, List.getElem?_cons_succ, List.getElem?_cons_zero]; rfl) (by kernel_rfl) (by kernel_rfl) (by kernel_rfl) (by kernel_rfl) (by kernel_rfl) (by exact fun _ _ _ h => h) (Or.inl ⟨by rfl, ?_⟩) hH ?_
  rotate_left
  · (intro wy hSw; (try dsimp only at hSw); subst hSw; have k0 := HC0.out; have k1 := HC1.out; have k2 := HCU.out; have k3 := HCK.out; go_simp; try (with_reducible rfl))
  try simp only [Act.put, List.setIfInBounds_toArray, List.set_cons_zero, List.set_cons_succ]
  refine Late.Goes.takeT (i := 5) (v := ?_) (by simp only [List.getElem?_toArray, List.getElem?_cons_succ, List.getElem?_cons_zero]; rfl) (by kernel_rfl) (by kernel_rfl) (by kernel_rfl) (by kernel_rfl) (by kernel_rfl) (by exact fun _ _ _ h => h) (Or.inl ⟨by rfl, ?_⟩) hH ?_
  rotate_left
  · (intro wy hSw; (try dsimp only at hSw); subst hSw; have k0 := HC0.out; have k1 := HC1.out; have k2 := HCU.out; have k3 := HCK.out; go_simp; try (with_reducible rfl))
  try simp only [Act.put, List.setIfInBounds_toArray, List.set_cons_zero, List.set_cons_succ]
  refine Late.Goes.takeT (i := 6) (v := ?_) (by simp only [List.getElem?_toArray, List.getElem?_cons_succ, List.getElem?_cons_zero]; rfl) (by kernel_rfl) (by kernel_rfl) (by kernel_rfl) (by kernel_rfl) (by kernel_rfl) (by exact fun _ _ _ h => h) (Or.inl ⟨by rfl, ?_⟩) hH ?_
  rotate_left
  · (intro wy hSw; (try dsimp only at hSw); subst hSw; have k0 := HC0.out; have k1 := HC1.out; have k2 := HCU.out; have k3 := HCK.out; go_simp; try (with_reducible rfl))
  try simp only [Act.put, List.setIfInBounds_toArray, List.set_cons_zero, List.set_cons_succ]
  refine Late.Goes.one (i := 7) (by kernel_rfl) (by simp only [List.getElem?_toArray, List.getElem?_cons_succ, List.getElem?_cons_zero]; rfl) (fun K hK => ?_)
  clear hH
  go_simp
  go_at_call 13
  refine HF.out.mono ?_
  rintro x w' ⟨rfl, rfl⟩
  refine hK.out _ _ ?_ (fun hH => ?_)
  · exact fun _ => rfl
  clear hK K
  have hH := hH rfl
  try simp only [Act.put, List.setIfInBounds_toArray, List.set_cons_zero, List.set_cons_succ]
  refine Late.Goes.takeT (i := 8) (v := ?_) (by simp only [List.getElem?_toArray, List.getElem?_cons_succ, List.getElem?_cons_zero]; rfl) (by kernel_rfl) (by kernel_rfl) (by kernel_rfl) (by kernel_rfl) (by kernel_rfl) (by exact fun _ _ _ h => h) (Or.inl ⟨by rfl, ?_⟩) hH ?_
  rotate_left
  · (intro wy hSw; (try dsimp only at hSw); subst hSw; have k0 := HC0.out; have k1 := HC1.out; have k2 := HCU.out; have k3 := HCK.out; go_simp; try (with_reducible rfl))
  try simp only [Act.put, List.setIfInBounds_toArray, List.set_cons_zero, List.set_cons_succ]
  refine Late.Goes.takeT (i := 9) (v := ?_) (by simp only [List.getElem?_toArray, List.getElem?_cons_succ, List.getElem?_cons_zero]; rfl) (by kernel_rfl) (by kernel_rfl) (by kernel_rfl) (by kernel_rfl) (by kernel_rfl) (by exact fun _ _ _ h => h) (Or.inl ⟨by rfl, ?_⟩) hH ?_
  rotate_left
  · (intro wy hSw; (try dsimp only at hSw); subst hSw; have k0 := HC0.out; have k1 := HC1.out; have k2 := HCU.out; have k3 := HCK.out; go_simp; try (with_reducible rfl))
  try simp only [Act.put, List.setIfInBounds_toArray, List.set_cons_zero, List.set_cons_succ]
  refine Late.Goes.takeT (i := 10) (v := ?_) (by simp only [List.getElem?_toArray, List.getElem?_cons_succ, List.getElem?_cons_zero]; rfl) (by kernel_rfl) (by kernel_rfl) (by kernel_rfl) (by kernel_rfl) (by kernel_rfl) (by exact fun _ _ _ h => h) (Or.inl ⟨by rfl, ?_⟩) hH ?_
  rotate_left
  · (intro wy hSw; (try dsimp only at hSw); subst hSw; have k0 := HC0.out; have k1 := HC1.out; have k2 := HCU.out; have k3 := HCK.out; go_simp; try (with_reducible rfl))
  try simp only [Act.put, List.setIfInBounds_toArray, List.set_cons_zero, List.set_cons_succ]
  refine Late.Goes.takeT (i := 11) (v := ?_) (by simp only [List.getElem?_toArray, List.getElem?_cons_succ, List.getElem?_cons_zero]; rfl) (by kernel_rfl) (by kernel_rfl) (by kernel_rfl) (by kernel_rfl) (by kernel_rfl) (by exact fun _ _ _ h => h) (Or.inl ⟨by rfl, ?_⟩) hH ?_
  rotate_left
  · (intro wy hSw; (try dsimp only at hSw); subst hSw; have k0 := HC0.out; have k1 := HC1.out; have k2 := HCU.out; have k3 := HCK.out; go_simp; try (with_reducible rfl))
  try simp only [Act.put, List.setIfInBounds_toArray, List.set_cons_zero, List.set_cons_succ]
  refine Late.Goes.takeT (i := 12) (v := undef) (by simp only [List.getElem?_toArray, List.getElem?_cons_succ, List.getElem?_cons_zero]; rfl) (by kernel_rfl) (by kernel_rfl) (by kernel_rfl) (by kernel_rfl) (by kernel_rfl) (by exact fun _ _ _ h => h) (Or.inr ⟨by rfl, rfl⟩) hH ?_
  try simp only [Act.put, List.setIfInBounds_toArray, List.set_cons_zero, List.set_cons_succ]
  refine Late.Goes.takeT (i := 13) (v := undef) (by simp only [List.getElem?_toArray, List.getElem?_cons_succ, List.getElem?_cons_zero]; rfl) (by kernel_rfl) (by kernel_rfl) (by kernel_rfl) (by kernel_rfl) (by kernel_rfl) (by exact fun _ _ _ h => h) (Or.inr ⟨by rfl, rfl⟩) hH ?_
  try simp only [Act.put, List.setIfInBounds_toArray, List.set_cons_zero, List.set_cons_succ]
  refine Late.Goes.takeT (i := 14) (v := undef) (by simp only [List.getElem?_toArray, List.getElem?_cons_succ, List.getElem?_cons_zero]; rfl) (by kernel_rfl) (by kernel_rfl) (by kernel_rfl) (by kernel_rfl) (by kernel_rfl) (by exact fun _ _ _ h => h) (Or.inr ⟨by rfl, rfl⟩) hH ?_
  try simp only [Act.put, List.setIfInBounds_toArray, List.set_cons_zero, List.set_cons_succ]
  refine Late.Goes.takeT (i := 15) (v := undef) (by simp only [List.getElem?_toArray, List.getElem?_cons_succ, List.getElem?_cons_zero]; rfl) (by kernel_rfl) (by kernel_rfl) (by kernel_rfl) (by kernel_rfl) (by kernel_rfl) (by exact fun _ _ _ h => h) (Or.inr ⟨by rfl, rfl⟩) hH ?_
  try simp only [Act.put, List.setIfInBounds_toArray, List.set_cons_zero, List.set_cons_succ]
  refine Late.Goes.takeT (i := 16) (v := undef) (by simp only [List.getElem?_toArray, List.getElem?_cons_succ, List.getElem?_cons_zero]; rfl) (by kernel_rfl) (by kernel_rfl) (by kernel_rfl) (by kernel_rfl) (by kernel_rfl) (by exact fun _ _ _ h => h) (Or.inr ⟨by rfl, rfl⟩) hH ?_
  try simp only [Act.put, List.setIfInBounds_toArray, List.set_cons_zero, List.set_cons_succ]
  refine Late.Goes.takeT (i := 17) (v := undef) (by simp only [List.getElem?_toArray, List.getElem?_cons_succ, List.getElem?_cons_zero]; rfl) (by kernel_rfl) (by kernel_rfl) (by kernel_rfl) (by kernel_rfl) (by kernel_rfl) (by exact fun _ _ _ h => h) (Or.inr ⟨by rfl, rfl⟩) hH ?_
  try simp only [Act.put, List.setIfInBounds_toArray, List.set_cons_zero, List.set_cons_succ]
  refine Late.Goes.takeT (i := 18) (v := undef) (by simp only [List.getElem?_toArray, List.getElem?_cons_succ, List.getElem?_cons_zero]; rfl) (by kernel_rfl) (by kernel_rfl) (by kernel_rfl) (by kernel_rfl) (by kernel_rfl) (by exact fun _ _ _ h => h) (Or.inr ⟨by rfl, rfl⟩) hH ?_
  try simp only [Act.put, List.setIfInBounds_toArray, List.set_cons_zero, List.set_cons_succ]
  refine Late.Goes.takeT (i := 19) (v := undef) (by simp only [List.getElem?_toArray, List.getElem?_cons_succ, List.getElem?_cons_zero]; rfl) (by kernel_rfl) (by kernel_rfl) (by kernel_rfl) (by kernel_rfl) (by kernel_rfl) (by exact fun _ _ _ h => h) (Or.inr ⟨by rfl, rfl⟩) hH ?_
  try simp only [Act.put, List.setIfInBounds_toArray, List.set_cons_zero, List.set_cons_succ]
  refine Late.Goes.takeT (i := 20) (v := undef) (by simp only [List.getElem?_toArray, List.getElem?_cons_succ, List.getElem?_cons_zero]; rfl) (by kernel_rfl) (by kernel_rfl) (by kernel_rfl) (by kernel_rfl) (by kernel_rfl) (by exact fun _ _ _ h => h) (Or.inr ⟨by rfl, rfl⟩) hH ?_
  try simp only [Act.put, List.setIfInBounds_toArray, List.set_cons_zero, List.set_cons_succ]
  refine Late.Goes.takeT (i := 21) (v := undef) (by simp only [List.getElem?_toArray, List.getElem?_cons_succ, List.getElem?_cons_zero]; rfl) (by kernel_rfl) (by kernel_rfl) (by kernel_rfl) (by kernel_rfl) (by kernel_rfl) (by exact fun _ _ _ h => h) (Or.inr ⟨by rfl, rfl⟩) hH ?_
  try simp only [Act.put, List.setIfInBounds_toArray, List.set_cons_zero, List.set_cons_succ]
  refine Late.Goes.takeT (i := 22) (v := undef) (by simp only [List.getElem?_toArray, List.getElem?_cons_succ, List.getElem?_cons_zero]; rfl) (by kernel_rfl) (by kernel_rfl) (by kernel_rfl) (by kernel_rfl) (by kernel_rfl) (by exact fun _ _ _ h => h) (Or.inr ⟨by rfl, rfl⟩) hH ?_
  try simp only [Act.put, List.setIfInBounds_toArray, List.set_cons_zero, List.set_cons_succ]
  refine Late.Goes.takeT (i := 23) (v := ?_) (by simp only [List.getElem?_toArray, List.getElem?_cons_succ, List.getElem?_cons_zero]; rfl) (by kernel_rfl) (by kernel_rfl) (by kernel_rfl) (by kernel_rfl) (by kernel_rfl) (by exact fun _ _ _ h => h) (Or.inl ⟨by rfl, ?_⟩) hH ?_
  rotate_left
  · (intro wy hSw; (try dsimp only at hSw); subst hSw; have k0 := HC0.out; have k1 := HC1.out; have k2 := HCU.out; have k3 := HCK.out; go_simp; try (with_reducible rfl))
  try simp only [Act.put, List.setIfInBounds_toArray, List.set_cons_zero, List.set_cons_succ]
  refine Late.Goes.done (by kernel_rfl) ?_ _
  have HLY := Lib.hid (rlay_any HA.out HGD.out.free e hs)
  have HRE := Lib.hid (ent_range HE.out)
  go_wp2_with (refine wpList_load_mid rfl 38 _ rfl b3 0 rfl (ecells e) _ HRE.out Tryd.underlying38 rfl (by rw [ecells_length]; exact rentry_size) ?_)
  refine HLY.out.mono ?_
  rintro x W3 ⟨rfl, hK3, hB3⟩
  have HR := Lib.hid (show RPut w rp ol ou T e W3 from ⟨ol, ou, _, n, by rw [put_there HAK.out]; exact hK3, .inl rfl, .inl rfl, (HB.out.mono (T := fun k => k = rp ∨ k = ol ∨ k = ou) (fun j hj h => h.elim)).trans hB3 (fun j hj h => .inr h)⟩)
  clear hK3 hB3 HLY
  go_wp2_with fail
  go_end0
  exact ⟨rfl, HR.out⟩
set_option maxRecDepth 100000 in
set_option maxHeartbeats 4000000 in
theorem rput_wide (h : RLo w rp ol ou T X n) (hg : Good T i) (hi : i + 1 ≤ 400) (e : Ent) (hs : e.key.size ≤ 100) (ha : ask T e.key = none) (ht : ¬ tight T) :
    Calls Tryd.prog 11 #[.pointer (some ⟨rp, 0, none⟩), ev e] w fun x w' => x = .returned (.tuple #[]) ∧ RPut w rp ol ou T e w' := by
  obtain ⟨l1, l2⟩ := h.few
  have hfl := find_lt (show 0 < T.length by rw [h.len]; omega) e.key
  rw [h.len] at hfl
  have hcl := cnt_le T
  rw [h.len] at hcl
  have HB0 := Lib.hid ((But.refl (fun _ => False) w).alloc (.cells (ecells e).toArray 38))
  have HE0 := Lib.hid (show Blk (w.alloc (.cells (ecells e).toArray 38)) w.heap.size 38 (ecells e).toArray from Blk.new _ _ _)
  have HA0 := Lib.hid (h.but HB0.out (fun h => h) (fun h => h) (fun h => h))
  have HGD := Lib.hid hg
  have HAK := Lib.hid ha
  have HT := Lib.hid ht
  clear ht
  have hl : look T (find T e.key) = none := ha
  obtain ⟨m, hm⟩ : ∃ m, m = find T e.key := ⟨_, rfl⟩
  have HM := Lib.hid hm
  rw [← hm] at hl hfl
  have HLO := Lib.hid hl
  clear hm h hg hl
  change Calls _ _ #[.pointer (some ⟨rp, 0, none⟩), .agg #[.string e.key, .int .i64 e.seg, .int .i64 e.at_, .int .i64 e.len, .int .u64 (e.ver : Int), .int .u64 (e.exp : Int), .int .i64 e.size]] w _
  go_enter Tryd.func11, Tryd.ntmps11
  go_wp2_with fail
  change Code.wp _ _ _ _ (w.alloc (.cells (ecells e).toArray 38))
  obtain ⟨b3, hb3⟩ : ∃ b, b = w.heap.size := ⟨_, rfl⟩
  rw [← hb3] at HE0 ⊢
  have HB3 := Lib.hid hb3
  clear hb3
  generalize w.alloc (.cells (ecells e).toArray 38) = W at HE0 HB0 HA0 ⊢
  have HD := Lib.hid ((But.refl (fun _ => False) W).drew)
  have HA := Lib.hid (HA0.out.but HD.out (fun h => h) (fun h => h) (fun h => h))
  have HE := Lib.hid (HE0.out.but HD.out (fun h => h))
  have HB := Lib.hid (HB0.out.trans HD.out (fun j hj h => h))
  have HF := Lib.hid (rfind_any HA.out HGD.out.free e.key hs)
  rw [← HM.out] at HF
  have HC0 := Lib.hid (show W.drew.cell? ⟨rp, 0, none⟩ = some (.slice (some ⟨ol, 0, none⟩) n n) from HA.out.blk.cell 0)
  have HC1 := Lib.hid (show W.drew.cell? ⟨rp, 1, none⟩ = some (.slice (some ⟨ou, 0, none⟩) n n) from HA.out.blk.cell 1)
  have HCU := Lib.hid (show W.drew.cell? ⟨ou, m, none⟩ = some (.bool false) by have := HA.out.used hfl; rw [HLO.out] at this; exact this)
  have HCK := Lib.hid (show W.drew.cell? ⟨b3, 0, none⟩ = some (.string e.key) from HE.out.cell 0)
  have hmi : (m : Int) < (n : Int) := by omega
  have HLN := Lib.hid (rlen_any HA.out)
  obtain ⟨cn, hcn⟩ : ∃ c, c = cnt T := ⟨_, rfl⟩
  rw [← hcn] at HLN hcl
  have hti : ¬ 3 * (n : Int) < 4 * ((cn : Int) + 1) := by have := HT.out; unfold tight at this; rw [HA.out.len] at this; omega
  have hw1 : IntKind.i64.wrap ((cn : Int) + 1) = (cn : Int) + 1 := by simp [IntKind.wrap, IntKind.bits, IntKind.signed]; omega
  have hw2 : IntKind.i64.wrap (4 * ((cn : Int) + 1)) = 4 * ((cn : Int) + 1) := by simp [IntKind.wrap, IntKind.bits, IntKind.signed]; omega
  have hw3 : IntKind.i64.wrap (3 * (n : Int)) = 3 * (n : Int) := by simp [IntKind.wrap, IntKind.bits, IntKind.signed]; omega
  have hw4 : IntKind.i64.wrap (2 * (n : Int)) = 2 * (n : Int) := by simp [IntKind.wrap, IntKind.bits, IntKind.signed]; omega
  clear hcn
  clear HA0 HB0 HE0 HD
  refine Late.region_goes (fun V => V = W.drew) (fun _ => false) (by kernel_rfl) ?_ (fun hH => ?_)
  · rfl
  refine Late.Goes.takeT (i := 0) (v := ?_) (by simp only [List.getElem?_toArray, List.getElem?_cons_succ, List.getElem?_cons_zero]; rfl) (by kernel_rfl) (by kernel_rfl) (by kernel_rfl) (by kernel_rfl) (by kernel_rfl) (by exact fun _ _ _ h => h) (Or.inl ⟨by rfl, ?_⟩) hH ?_
  rotate_left
  · (intro wy hSw; (try dsimp only at hSw); subst hSw; have k0 := HC0.out; have k1 := HC1.out; have k2 := HCU.out; have k3 := HCK.out; go_simp; try (with_reducible rfl))
  try simp only [Act.put, List.setIfInBounds_toArray, List.set_cons_zero, List.set_cons_succ]
  refine Late.Goes.takeT (i := 1) (v := ?_) (by simp only [List.getElem?_toArray, List.getElem?_cons_succ, List.getElem?_cons_zero]; rfl) (by kernel_rfl) (by kernel_rfl) (by kernel_rfl) (by kernel_rfl) (by kernel_rfl) (by exact fun _ _ _ h => h) (Or.inl ⟨by rfl, ?_⟩) hH ?_
  rotate_left
  · (intro wy hSw; (try dsimp only at hSw); subst hSw; have k0 := HC0.out; have k1 := HC1.out; have k2 := HCU.out; have k3 := HCK.out; go_simp; try (with_reducible rfl))
  try simp only [Act.put, List.setIfInBounds_toArray, List.set_cons_zero, List.set_cons_succ]
  refine Late.Goes.takeT (i := 2) (v := ?_) (by simp only [List.getElem?_toArray, List.getElem?_cons_succ, List.getElem?_cons_zero]; rfl) (by kernel_rfl) (by kernel_rfl) (by kernel_rfl) (by kernel_rfl) (by kernel_rfl) (by exact fun _ _ _ h => h) (Or.inl ⟨by rfl, ?_⟩) hH ?_
  rotate_left
  · (intro wy hSw; (try dsimp only at hSw); subst hSw; have k0 := HC0.out; have k1 := HC1.out; have k2 := HCU.out; have k3 := HCK.out; go_simp; try (with_reducible rfl))
  try simp only [Act.put, List.setIfInBounds_toArray, List.set_cons_zero, List.set_cons_succ]
  refine Late.Goes.takeT (i := 3) (v := ?_) (by simp only [List.getElem?_toArray, List.getElem?_cons_succ, List.getElem?_cons_zero]; rfl) (by kernel_rfl) (by kernel_rfl) (by kernel_rfl) (by kernel_rfl) (by kernel_rfl) (by exact fun _ _ _ h => h) (Or.inl ⟨by rfl, ?_⟩) hH ?_
  rotate_left
  · (intro wy hSw; (try dsimp only at hSw); subst hSw; have k0 := HC0.out; have k1 := HC1.out; have k2 := HCU.out; have k3 := HCK.out; go_simp; try (with_reducible rfl))
  try simp only [Act.put, List.setIfInBounds_toArray, List.set_cons_zero, List.set_cons_succ]
  refine Late.Goes.takeT (i := 4) (v := ?_) (by simp only [List.getElem?_toArray, List.getElem?_cons_succ, List.getElem?_cons_zero]; rfl) (by kernel_rfl) (by kernel_rfl) (by kernel_rfl) (by kernel_rfl) (by kernel_rfl) (by exact fun _ _ _ h => h) (Or.inl ⟨by rfl, ?_⟩) hH ?_
  rotate_left
  · (intro wy hSw; (try dsimp only at hSw); subst hSw; have k0 := HC0.out; have k1 := HC1.out; have k2 := HCU.out; have k3 := HCK.out; go_simp; try (with_reducible rfl))
  try simp only [Act.put, List.setIfInBounds_toArray, List.set_cons_zero, List.set_cons_succ]
  refine Late.Goes.takeT (i := 5) (v := ?_) (by simp only [List.getElem?_toArray, List.getElem?_cons_succ, List.getElem?_cons_zero]; rfl) (by kernel_rfl) (by kernel_rfl) (by kernel_rfl) (by kernel_rfl) (by kernel_rfl) (by exact fun _ _ _ h => h) (Or.inl ⟨by rfl, ?_⟩) hH ?_
  rotate_left
  · (intro wy hSw; (try dsimp only at hSw); subst hSw; have k0 := HC0.out; have k1 := HC1.out; have k2 := HCU.out; have k3 := HCK.out; go_simp; try (with_reducible rfl))
  try simp only [Act.put, List.setIfInBounds_toArray, List.set_cons_zero, List.set_cons_succ]
  refine Late.Goes.takeT (i := 6) (v := ?_) (by simp only [List.getElem?_toArray, List.getElem?_cons_succ, List.getElem?_cons_zero]; rfl) (by kernel_rfl) (by kernel_rfl) (by kernel_rfl) (by kernel_rfl) (by kernel_rfl) (by exact fun _ _ _ h => h) (Or.inl ⟨by rfl, ?_⟩) hH ?_
  rotate_left
  · (intro wy hSw; (try dsimp only at hSw); subst hSw; have k0 := HC0.out; have k1 := HC1.out; have k2 := HCU.out; have k3 := HCK.out; go_simp; try (with_reducible rfl))
  try simp only [Act.put, List.setIfInBounds_toArray, List.set_cons_zero, List.set_cons_succ]
  refine Late.Goes.one (i := 7) (by kernel_rfl) (by simp only [List.getElem?_toArray, List.getElem?_cons_succ, List.getElem?_cons_zero]; rfl) (fun K hK => ?_)
  clear hH
  go_simp
  go_at_call 13
  refine HF.out.mono ?_
  rintro x w' ⟨rfl, rfl⟩
  refine hK.out _ _ ?_ (fun hH => ?_)
  · exact fun _ => rfl
  clear hK K
  have hH := hH rfl
  try simp only [Act.put, List.setIfInBounds_toArray, List.set_cons_zero, List.set_cons_succ]
  refine Late.Goes.takeT (i := 8) (v := ?_) (by simp only [List.getElem?_toArray, List.getElem?_cons_succ, List.getElem?_cons_zero]; rfl) (by kernel_rfl) (by kernel_rfl) (by kernel_rfl) (by kernel_rfl) (by kernel_rfl) (by exact fun _ _ _ h => h) (Or.inl ⟨by rfl, ?_⟩) hH ?_
  rotate_left
  · (intro wy hSw; (try dsimp only at hSw); subst hSw; have k0 := HC0.out; have k1 := HC1.out; have k2 := HCU.out; have k3 := HCK.out; go_simp; try (with_reducible rfl))
  try simp only [Act.put, List.setIfInBounds_toArray, List.set_cons_zero, List.set_cons_succ]
  refine Late.Goes.takeT (i := 9) (v := ?_) (by simp only [List.getElem?_toArray, List.getElem?_cons_succ, List.getElem?_cons_zero]; rfl) (by kernel_rfl) (by kernel_rfl) (by kernel_rfl) (by kernel_rfl) (by kernel_rfl) (by exact fun _ _ _ h => h) (Or.inl ⟨by rfl, ?_⟩) hH ?_
  rotate_left
  · (intro wy hSw; (try dsimp only at hSw); subst hSw; have k0 := HC0.out; have k1 := HC1.out; have k2 := HCU.out; have k3 := HCK.out; go_simp; try (with_reducible rfl))
  try simp only [Act.put, List.setIfInBounds_toArray, List.set_cons_zero, List.set_cons_succ]
  refine Late.Goes.takeT (i := 10) (v := ?_) (by simp only [List.getElem?_toArray, List.getElem?_cons_succ, List.getElem?_cons_zero]; rfl) (by kernel_rfl) (by kernel_rfl) (by kernel_rfl) (by kernel_rfl) (by kernel_rfl) (by exact fun _ _ _ h => h) (Or.inl ⟨by rfl, ?_⟩) hH ?_
  rotate_left
  · (intro wy hSw; (try dsimp only at hSw); subst hSw; have k0 := HC0.out; have k1 := HC1.out; have k2 := HCU.out; have k3 := HCK.out; go_simp; try (with_reducible rfl))
  try simp only [Act.put, List.setIfInBounds_toArray, List.set_cons_zero, List.set_cons_succ]
  refine Late.Goes.takeT (i := 11) (v := ?_) (by simp only [List.getElem?_toArray, List.getElem?_cons_succ, List.getElem?_cons_zero]; rfl) (by kernel_rfl) (by kernel_rfl) (by kernel_rfl) (by kernel_rfl) (by kernel_rfl) (by exact fun _ _ _ h => h) (Or.inl ⟨by rfl, ?_⟩) hH ?_
  rotate_left
  · (intro wy hSw; (try dsimp only at hSw); subst hSw; have k0 := HC0.out; have k1 := HC1.out; have k2 := HCU.out; have k3 := HCK.out; go_simp; try (with_reducible rfl))
  try simp only [Act.put, List.setIfInBounds_toArray, List.set_cons_zero, List.set_cons_succ]
  refine Late.Goes.takeT (i := 12) (v := ?_) (by simp only [List.getElem?_toArray, List.getElem?_cons_succ, List.getElem?_cons_zero]; rfl) (by kernel_rfl) (by kernel_rfl) (by kernel_rfl) (by kernel_rfl) (by kernel_rfl) (by exact fun _ _ _ h => h) (Or.inl ⟨by rfl, ?_⟩) hH ?_
  rotate_left
  · (intro wy hSw; (try dsimp only at hSw); subst hSw; have k0 := HC0.out; have k1 := HC1.out; have k2 := HCU.out; have k3 := HCK.out; go_simp; try (with_reducible rfl))
  try simp only [Act.put, List.setIfInBounds_toArray, List.set_cons_zero, List.set_cons_succ]
  refine Late.Goes.takeT (i := 16) (v := ?_) (by simp only [List.getElem?_toArray, List.getElem?_cons_succ, List.getElem?_cons_zero]; rfl) (by kernel_rfl) (by kernel_rfl) (by kernel_rfl) (by kernel_rfl) (by kernel_rfl) (by exact fun _ _ _ h => h) (Or.inl ⟨by rfl, ?_⟩) hH ?_
  rotate_left
  · (intro wy hSw; (try dsimp only at hSw); subst hSw; have k0 := HC0.out; have k1 := HC1.out; have k2 := HCU.out; have k3 := HCK.out; go_simp; try (with_reducible rfl))
  try simp only [Act.put, List.setIfInBounds_toArray, List.set_cons_zero, List.set_cons_succ]
  refine Late.Goes.takeT (i := 17) (v := ?_) (by simp only [List.getElem?_toArray, List.getElem?_cons_succ, List.getElem?_cons_zero]; rfl) (by kernel_rfl) (by kernel_rfl) (by kernel_rfl) (by kernel_rfl) (by kernel_rfl) (by exact fun _ _ _ h => h) (Or.inl ⟨by rfl, ?_⟩) hH ?_
  rotate_left
  · (intro wy hSw; (try dsimp only at hSw); subst hSw; have k0 := HC0.out; have k1 := HC1.out; have k2 := HCU.out; have k3 := HCK.out; go_simp; try (with_reducible rfl))
  try simp only [Act.put, List.setIfInBounds_toArray, List.set_cons_zero, List.set_cons_succ]
  refine Late.Goes.takeT (i := 18) (v := ?_) (by simp only [List.getElem?_toArray, List.getElem?_cons_succ, List.getElem?_cons_zero]; rfl) (by kernel_rfl) (by kernel_rfl) (by kernel_rfl) (by kernel_rfl) (by kernel_rfl) (by exact fun _ _ _ h => h) (Or.inl ⟨by rfl, ?_⟩) hH ?_
  rotate_left
  · (intro wy hSw; (try dsimp only at hSw); subst hSw; have k0 := HC0.out; have k1 := HC1.out; have k2 := HCU.out; have k3 := HCK.out; go_simp; try (with_reducible rfl))
  try simp only [Act.put, List.setIfInBounds_toArray, List.set_cons_zero, List.set_cons_succ]
  refine Late.Goes.takeT (i := 19) (v := ?_) (by simp only [List.getElem?_toArray, List.getElem?_cons_succ, List.getElem?_cons_zero]; rfl) (by kernel_rfl) (by kernel_rfl) (by kernel_rfl) (by kernel_rfl) (by kernel_rfl) (by exact fun _ _ _ h => h) (Or.inl ⟨by rfl, ?_⟩) hH ?_
  rotate_left
  · (intro wy hSw; (try dsimp only at hSw); subst hSw; have k0 := HC0.out; have k1 := HC1.out; have k2 := HCU.out; have k3 := HCK.out; go_simp; try (with_reducible rfl))
  try simp only [Act.put, List.setIfInBounds_toArray, List.set_cons_zero, List.set_cons_succ]
  refine Late.Goes.takeT (i := 20) (v := ?_) (by simp only [List.getElem?_toArray, List.getElem?_cons_succ, List.getElem?_cons_zero]; rfl) (by kernel_rfl) (by kernel_rfl) (by kernel_rfl) (by kernel_rfl) (by kernel_rfl) (by exact fun _ _ _ h => h) (Or.inl ⟨by rfl, ?_⟩) hH ?_
  rotate_left
  · (intro wy hSw; (try dsimp only at hSw); subst hSw; have k0 := HC0.out; have k1 := HC1.out; have k2 := HCU.out; have k3 := HCK.out; go_simp; try (with_reducible rfl))
  try simp only [Act.put, List.setIfInBounds_toArray, List.set_cons_zero, List.set_cons_succ]
  refine Late.Goes.takeT (i := 21) (v := ?_) (by simp only [List.getElem?_toArray, List.getElem?_cons_succ, List.getElem?_cons_zero]; rfl) (by kernel_rfl) (by kernel_rfl) (by kernel_rfl) (by kernel_rfl) (by kernel_rfl) (by exact fun _ _ _ h => h) (Or.inl ⟨by rfl, ?_⟩) hH ?_
  rotate_left
  · (intro wy hSw; (try dsimp only at hSw); subst hSw; have k0 := HC0.out; have k1 := HC1.out; have k2 := HCU.out; have k3 := HCK.out; go_simp; try (with_reducible rfl))
  try simp only [Act.put, List.setIfInBounds_toArray, List.set_cons_zero, List.set_cons_succ]
  refine Late.Goes.one (i := 13) (by kernel_rfl) (by simp only [List.getElem?_toArray, List.getElem?_cons_succ, List.getElem?_cons_zero]; rfl) (fun K hK => ?_)
  clear hH
  go_simp
  go_at_call 16
  refine HLN.out.mono ?_
  rintro x w' ⟨rfl, rfl⟩
  refine hK.out _ _ ?_ (fun hH => ?_)
  · exact fun _ => rfl
  clear hK K
  have hH := hH rfl
  try simp only [Act.put, List.setIfInBounds_toArray, List.set_cons_zero, List.set_cons_succ]
  refine Late.Goes.takeT (i := 14) (v := ?_) (by simp only [List.getElem?_toArray, List.getElem?_cons_succ, List.getElem?_cons_zero]; rfl) (by kernel_rfl) (by kernel_rfl) (by kernel_rfl) (by kernel_rfl) (by kernel_rfl) (by exact fun _ _ _ h => h) (Or.inl ⟨by rfl, ?_⟩) hH ?_
  rotate_left
  · (intro wy hSw; (try dsimp only at hSw); subst hSw; have k0 := HC0.out; have k1 := HC1.out; have k2 := HCU.out; have k3 := HCK.out; go_simp; try (with_reducible rfl))
  try simp only [Act.put, List.setIfInBounds_toArray, List.set_cons_zero, List.set_cons_succ]
  refine Late.Goes.takeT (i := 15) (v := ?_) (by simp only [List.getElem?_toArray, List.getElem?_cons_succ, List.getElem?_cons_zero]; rfl) (by kernel_rfl) (by kernel_rfl) (by kernel_rfl) (by kernel_rfl) (by kernel_rfl) (by exact fun _ _ _ h => h) (Or.inl ⟨by rfl, ?_⟩) hH ?_
  rotate_left
  · (intro wy hSw; (try dsimp only at hSw); subst hSw; have k0 := HC0.out; have k1 := HC1.out; have k2 := HCU.out; have k3 := HCK.out; go_simp; try (with_reducible rfl))
  try simp only [Act.put, List.setIfInBounds_toArray, List.set_cons_zero, List.set_cons_succ]
  refine Late.Goes.takeT (i := 22) (v := ?_) (by simp only [List.getElem?_toArray, List.getElem?_cons_succ, List.getElem?_cons_zero]; rfl) (by kernel_rfl) (by kernel_rfl) (by kernel_rfl) (by kernel_rfl) (by kernel_rfl) (by exact fun _ _ _ h => h) (Or.inl ⟨by rfl, ?_⟩) hH ?_
  rotate_left
  · (intro wy hSw; (try dsimp only at hSw); subst hSw; have k0 := HC0.out; have k1 := HC1.out; have k2 := HCU.out; have k3 := HCK.out; go_simp; try (with_reducible rfl))
  try simp only [Act.put, List.setIfInBounds_toArray, List.set_cons_zero, List.set_cons_succ]
  refine Late.Goes.takeT (i := 23) (v := ?_) (by simp only [List.getElem?_toArray, List.getElem?_cons_succ, List.getElem?_cons_zero]; rfl) (by kernel_rfl) (by kernel_rfl) (by kernel_rfl) (by kernel_rfl) (by kernel_rfl) (by exact fun _ _ _ h => h) (Or.inl ⟨by rfl, ?_⟩) hH ?_
  rotate_left
  · (intro wy hSw; (try dsimp only at hSw); subst hSw; have k0 := HC0.out; have k1 := HC1.out; have k2 := HCU.out; have k3 := HCK.out; go_simp; try (with_reducible rfl))
  try simp only [Act.put, List.setIfInBounds_toArray, List.set_cons_zero, List.set_cons_succ]
  refine Late.Goes.done (by kernel_rfl) ?_ _
  have HLY := Lib.hid (rlay_any HA.out HGD.out.free e hs)
  have HRE := Lib.hid (ent_range HE.out)
  go_wp2_with (refine wpList_load_mid rfl 38 _ rfl b3 0 rfl (ecells e) _ HRE.out Tryd.underlying38 rfl (by rw [ecells_length]; exact rentry_size) ?_)
  refine HLY.out.mono ?_
  rintro x W3 ⟨rfl, hK3, hB3⟩
  have HR := Lib.hid (show RPut w rp ol ou T e W3 from ⟨ol, ou, _, n, by rw [put_wide HT.out]; exact hK3, .inl rfl, .inl rfl, (HB.out.mono (T := fun k => k = rp ∨ k = ol ∨ k = ou) (fun j hj h => h.elim)).trans hB3 (fun j hj h => .inr h)⟩)
  clear hK3 hB3 HLY
  go_wp2_with fail
  go_end0
  exact ⟨rfl, HR.out⟩
set_option maxRecDepth 100000 in
set_option maxHeartbeats 4000000 in
theorem rput_tight (h : RLo w rp ol ou T X n) (hg : Good T i) (hi : i + 1 ≤ 400) (e : Ent) (hs : e.key.size ≤ 100) (ha : ask T e.key = none) (ht : tight T) :
    Calls Tryd.prog 11 #[.pointer (some ⟨rp, 0, none⟩), ev e] w fun x w' => x = .returned (.tuple #[]) ∧ RPut w rp ol ou T e w' := by
  obtain ⟨l1, l2⟩ := h.few
  have hfl := find_lt (show 0 < T.length by rw [h.len]; omega) e.key
  rw [h.len] at hfl
  have hcl := cnt_le T
  rw [h.len] at hcl
  have HB0 := Lib.hid ((But.refl (fun _ => False) w).alloc (.cells (ecells e).toArray 38))
  have HE0 := Lib.hid (show Blk (w.alloc (.cells (ecells e).toArray 38)) w.heap.size 38 (ecells e).toArray from Blk.new _ _ _)
  have HA0 := Lib.hid (h.but HB0.out (fun h => h) (fun h => h) (fun h => h))
  have HGD := Lib.hid hg
  have HAK := Lib.hid ha
  have HT := Lib.hid ht
  clear ht
  have hl : look T (find T e.key) = none := ha
  obtain ⟨m, hm⟩ : ∃ m, m = find T e.key := ⟨_, rfl⟩
  have HM := Lib.hid hm
  rw [← hm] at hl hfl
  have HLO := Lib.hid hl
  have HLT := Lib.hid (And.intro h.blk.lt (And.intro h.lrow.lt h.urow.lt))
  clear hm h hg hl
  change Calls _ _ #[.pointer (some ⟨rp, 0, none⟩), .agg #[.string e.key, .int .i64 e.seg, .int .i64 e.at_, .int .i64 e.len, .int .u64 (e.ver : Int), .int .u64 (e.exp : Int), .int .i64 e.size]] w _
  go_enter Tryd.func11, Tryd.ntmps11
  go_wp2_with fail
  change Code.wp _ _ _ _ (w.alloc (.cells (ecells e).toArray 38))
  obtain ⟨b3, hb3⟩ : ∃ b, b = w.heap.size := ⟨_, rfl⟩
  rw [← hb3] at HE0 ⊢
  have HB3 := Lib.hid hb3
  clear hb3
  generalize w.alloc (.cells (ecells e).toArray 38) = W at HE0 HB0 HA0 ⊢
  have HD := Lib.hid ((But.refl (fun _ => False) W).drew)
  have HA := Lib.hid (HA0.out.but HD.out (fun h => h) (fun h => h) (fun h => h))
  have HE := Lib.hid (HE0.out.but HD.out (fun h => h))
  have HB := Lib.hid (HB0.out.trans HD.out (fun j hj h => h))
  have HF := Lib.hid (rfind_any HA.out HGD.out.free e.key hs)
  rw [← HM.out] at HF
  have HC0 := Lib.hid (show W.drew.cell? ⟨rp, 0, none⟩ = some (.slice (some ⟨ol, 0, none⟩) n n) from HA.out.blk.cell 0)
  have HC1 := Lib.hid (show W.drew.cell? ⟨rp, 1, none⟩ = some (.slice (some ⟨ou, 0, none⟩) n n) from HA.out.blk.cell 1)
  have HCU := Lib.hid (show W.drew.cell? ⟨ou, m, none⟩ = some (.bool false) by have := HA.out.used hfl; rw [HLO.out] at this; exact this)
  have HCK := Lib.hid (show W.drew.cell? ⟨b3, 0, none⟩ = some (.string e.key) from HE.out.cell 0)
  have hmi : (m : Int) < (n : Int) := by omega
  have HLN := Lib.hid (rlen_any HA.out)
  obtain ⟨cn, hcn⟩ : ∃ c, c = cnt T := ⟨_, rfl⟩
  rw [← hcn] at HLN hcl
  have hti : 3 * (n : Int) < 4 * ((cn : Int) + 1) := by have := HT.out; unfold tight at this; rw [HA.out.len] at this; omega
  have hw1 : IntKind.i64.wrap ((cn : Int) + 1) = (cn : Int) + 1 := by simp [IntKind.wrap, IntKind.bits, IntKind.signed]; omega
  have hw2 : IntKind.i64.wrap (4 * ((cn : Int) + 1)) = 4 * ((cn : Int) + 1) := by simp [IntKind.wrap, IntKind.bits, IntKind.signed]; omega
  have hw3 : IntKind.i64.wrap (3 * (n : Int)) = 3 * (n : Int) := by simp [IntKind.wrap, IntKind.bits, IntKind.signed]; omega
  have hw4 : IntKind.i64.wrap (2 * (n : Int)) = 2 * (n : Int) := by simp [IntKind.wrap, IntKind.bits, IntKind.signed]; omega
  clear hcn
  clear HA0 HB0 HE0 HD
  refine Late.region_goes (fun V => V = W.drew) (fun _ => false) (by kernel_rfl) ?_ (fun hH => ?_)
  · rfl
  refine Late.Goes.takeT (i := 0) (v := ?_) (by simp only [List.getElem?_toArray, List.getElem?_cons_succ, List.getElem?_cons_zero]; rfl) (by kernel_rfl) (by kernel_rfl) (by kernel_rfl) (by kernel_rfl) (by kernel_rfl) (by exact fun _ _ _ h => h) (Or.inl ⟨by rfl, ?_⟩) hH ?_
  rotate_left
  · (intro wy hSw; (try dsimp only at hSw); subst hSw; have k0 := HC0.out; have k1 := HC1.out; have k2 := HCU.out; have k3 := HCK.out; go_simp; try (with_reducible rfl))
  try simp only [Act.put, List.setIfInBounds_toArray, List.set_cons_zero, List.set_cons_succ]
  refine Late.Goes.takeT (i := 1) (v := ?_) (by simp only [List.getElem?_toArray, List.getElem?_cons_succ, List.getElem?_cons_zero]; rfl) (by kernel_rfl) (by kernel_rfl) (by kernel_rfl) (by kernel_rfl) (by kernel_rfl) (by exact fun _ _ _ h => h) (Or.inl ⟨by rfl, ?_⟩) hH ?_
  rotate_left
  · (intro wy hSw; (try dsimp only at hSw); subst hSw; have k0 := HC0.out; have k1 := HC1.out; have k2 := HCU.out; have k3 := HCK.out; go_simp; try (with_reducible rfl))
  try simp only [Act.put, List.setIfInBounds_toArray, List.set_cons_zero, List.set_cons_succ]
  refine Late.Goes.takeT (i := 2) (v := ?_) (by simp only [List.getElem?_toArray, List.getElem?_cons_succ, List.getElem?_cons_zero]; rfl) (by kernel_rfl) (by kernel_rfl) (by kernel_rfl) (by kernel_rfl) (by kernel_rfl) (by exact fun _ _ _ h => h) (Or.inl ⟨by rfl, ?_⟩) hH ?_
  rotate_left
  · (intro wy hSw; (try dsimp only at hSw); subst hSw; have k0 := HC0.out; have k1 := HC1.out; have k2 := HCU.out; have k3 := HCK.out; go_simp; try (with_reducible rfl))
  try simp only [Act.put, List.setIfInBounds_toArray, List.set_cons_zero, List.set_cons_succ]
  refine Late.Goes.takeT (i := 3) (v := ?_) (by simp only [List.getElem?_toArray, List.getElem?_cons_succ, List.getElem?_cons_zero]; rfl) (by kernel_rfl) (by kernel_rfl) (by kernel_rfl) (by kernel_rfl) (by kernel_rfl) (by exact fun _ _ _ h => h) (Or.inl ⟨by rfl, ?_⟩) hH ?_
  rotate_left
  · (intro wy hSw; (try dsimp only at hSw); subst hSw; have k0 := HC0.out; have k1 := HC1.out; have k2 := HCU.out; have k3 := HCK.out; go_simp; try (with_reducible rfl))
  try simp only [Act.put, List.setIfInBounds_toArray, List.set_cons_zero, List.set_cons_succ]
  refine Late.Goes.takeT (i := 4) (v := ?_) (by simp only [List.getElem?_toArray, List.getElem?_cons_succ, List.getElem?_cons_zero]; rfl) (by kernel_rfl) (by kernel_rfl) (by kernel_rfl) (by kernel_rfl) (by kernel_rfl) (by exact fun _ _ _ h => h) (Or.inl ⟨by rfl, ?_⟩) hH ?_
  rotate_left
  · (intro wy hSw; (try dsimp only at hSw); subst hSw; have k0 := HC0.out; have k1 := HC1.out; have k2 := HCU.out; have k3 := HCK.out; go_simp; try (with_reducible rfl))
  try simp only [Act.put, List.setIfInBounds_toArray, List.set_cons_zero, List.set_cons_succ]
  refine Late.Goes.takeT (i := 5) (v := ?_) (by simp only [List.getElem?_toArray, List.getElem?_cons_succ, List.getElem?_cons_zero]; rfl) (by kernel_rfl) (by kernel_rfl) (by kernel_rfl) (by kernel_rfl) (by kernel_rfl) (by exact fun _ _ _ h => h) (Or.inl ⟨by rfl, ?_⟩) hH ?_
  rotate_left
  · (intro wy hSw; (try dsimp only at hSw); subst hSw; have k0 := HC0.out; have k1 := HC1.out; have k2 := HCU.out; have k3 := HCK.out; go_simp; try (with_reducible rfl))
  try simp only [Act.put, List.setIfInBounds_toArray, List.set_cons_zero, List.set_cons_succ]
  refine Late.Goes.takeT (i := 6) (v := ?_) (by simp only [List.getElem?_toArray, List.getElem?_cons_succ, List.getElem?_cons_zero]; rfl) (by kernel_rfl) (by kernel_rfl) (by kernel_rfl) (by kernel_rfl) (by kernel_rfl) (by exact fun _ _ _ h => h) (Or.inl ⟨by rfl, ?_⟩) hH ?_
  rotate_left
  · (intro wy hSw; (try dsimp only at hSw); subst hSw; have k0 := HC0.out; have k1 := HC1.out; have k2 := HCU.out; have k3 := HCK.out; go_simp; try (with_reducible rfl))
  try simp only [Act.put, List.setIfInBounds_toArray, List.set_cons_zero, List.set_cons_succ]
  refine Late.Goes.one (i := 7) (by kernel_rfl) (by simp only [List.getElem?_toArray, List.getElem?_cons_succ, List.getElem?_cons_zero]; rfl) (fun K hK => ?_)
  clear hH
  go_simp
  go_at_call 13
  refine HF.out.mono ?_
  rintro x w' ⟨rfl, rfl⟩
  refine hK.out _ _ ?_ (fun hH => ?_)
  · exact fun _ => rfl
  clear hK K
  have hH := hH rfl
  try simp only [Act.put, List.setIfInBounds_toArray, List.set_cons_zero, List.set_cons_succ]
  refine Late.Goes.takeT (i := 8) (v := ?_) (by simp only [List.getElem?_toArray, List.getElem?_cons_succ, List.getElem?_cons_zero]; rfl) (by kernel_rfl) (by kernel_rfl) (by kernel_rfl) (by kernel_rfl) (by kernel_rfl) (by exact fun _ _ _ h => h) (Or.inl ⟨by rfl, ?_⟩) hH ?_
  rotate_left
  · (intro wy hSw; (try dsimp only at hSw); subst hSw; have k0 := HC0.out; have k1 := HC1.out; have k2 := HCU.out; have k3 := HCK.out; go_simp; try (with_reducible rfl))
  try simp only [Act.put, List.setIfInBounds_toArray, List.set_cons_zero, List.set_cons_succ]
  refine Late.Goes.takeT (i := 9) (v := ?_) (by simp only [List.getElem?_toArray, List.getElem?_cons_succ, List.getElem?_cons_zero]; rfl) (by kernel_rfl) (by kernel_rfl) (by kernel_rfl) (by kernel_rfl) (by kernel_rfl) (by exact fun _ _ _ h => h) (Or.inl ⟨by rfl, ?_⟩) hH ?_
  rotate_left
  · (intro wy hSw; (try dsimp only at hSw); subst hSw; have k0 := HC0.out; have k1 := HC1.out; have k2 := HCU.out; have k3 := HCK.out; go_simp; try (with_reducible rfl))
  try simp only [Act.put, List.setIfInBounds_toArray, List.set_cons_zero, List.set_cons_succ]
  refine Late.Goes.takeT (i := 10) (v := ?_) (by simp only [List.getElem?_toArray, List.getElem?_cons_succ, List.getElem?_cons_zero]; rfl) (by kernel_rfl) (by kernel_rfl) (by kernel_rfl) (by kernel_rfl) (by kernel_rfl) (by exact fun _ _ _ h => h) (Or.inl ⟨by rfl, ?_⟩) hH ?_
  rotate_left
  · (intro wy hSw; (try dsimp only at hSw); subst hSw; have k0 := HC0.out; have k1 := HC1.out; have k2 := HCU.out; have k3 := HCK.out; go_simp; try (with_reducible rfl))
  try simp only [Act.put, List.setIfInBounds_toArray, List.set_cons_zero, List.set_cons_succ]
  refine Late.Goes.takeT (i := 11) (v := ?_) (by simp only [List.getElem?_toArray, List.getElem?_cons_succ, List.getElem?_cons_zero]; rfl) (by kernel_rfl) (by kernel_rfl) (by kernel_rfl) (by kernel_rfl) (by kernel_rfl) (by exact fun _ _ _ h => h) (Or.inl ⟨by rfl, ?_⟩) hH ?_
  rotate_left
  · (intro wy hSw; (try dsimp only at hSw); subst hSw; have k0 := HC0.out; have k1 := HC1.out; have k2 := HCU.out; have k3 := HCK.out; go_simp; try (with_reducible rfl))
  try simp only [Act.put, List.setIfInBounds_toArray, List.set_cons_zero, List.set_cons_succ]
  refine Late.Goes.takeT (i := 12) (v := ?_) (by simp only [List.getElem?_toArray, List.getElem?_cons_succ, List.getElem?_cons_zero]; rfl) (by kernel_rfl) (by kernel_rfl) (by kernel_rfl) (by kernel_rfl) (by kernel_rfl) (by exact fun _ _ _ h => h) (Or.inl ⟨by rfl, ?_⟩) hH ?_
  rotate_left
  · (intro wy hSw; (try dsimp only at hSw); subst hSw; have k0 := HC0.out; have k1 := HC1.out; have k2 := HCU.out; have k3 := HCK.out; go_simp; try (with_reducible rfl))
  try simp only [Act.put, List.setIfInBounds_toArray, List.set_cons_zero, List.set_cons_succ]
  refine Late.Goes.takeT (i := 16) (v := ?_) (by simp only [List.getElem?_toArray, List.getElem?_cons_succ, List.getElem?_cons_zero]; rfl) (by kernel_rfl) (by kernel_rfl) (by kernel_rfl) (by kernel_rfl) (by kernel_rfl) (by exact fun _ _ _ h => h) (Or.inl ⟨by rfl, ?_⟩) hH ?_
  rotate_left
  · (intro wy hSw; (try dsimp only at hSw); subst hSw; have k0 := HC0.out; have k1 := HC1.out; have k2 := HCU.out; have k3 := HCK.out; go_simp; try (with_reducible rfl))
  try simp only [Act.put, List.setIfInBounds_toArray, List.set_cons_zero, List.set_cons_succ]
  refine Late.Goes.takeT (i := 17) (v := ?_) (by simp only [List.getElem?_toArray, List.getElem?_cons_succ, List.getElem?_cons_zero]; rfl) (by kernel_rfl) (by kernel_rfl) (by kernel_rfl) (by kernel_rfl) (by kernel_rfl) (by exact fun _ _ _ h => h) (Or.inl ⟨by rfl, ?_⟩) hH ?_
  rotate_left
  · (intro wy hSw; (try dsimp only at hSw); subst hSw; have k0 := HC0.out; have k1 := HC1.out; have k2 := HCU.out; have k3 := HCK.out; go_simp; try (with_reducible rfl))
  try simp only [Act.put, List.setIfInBounds_toArray, List.set_cons_zero, List.set_cons_succ]
  refine Late.Goes.takeT (i := 18) (v := ?_) (by simp only [List.getElem?_toArray, List.getElem?_cons_succ, List.getElem?_cons_zero]; rfl) (by kernel_rfl) (by kernel_rfl) (by kernel_rfl) (by kernel_rfl) (by kernel_rfl) (by exact fun _ _ _ h => h) (Or.inl ⟨by rfl, ?_⟩) hH ?_
  rotate_left
  · (intro wy hSw; (try dsimp only at hSw); subst hSw; have k0 := HC0.out; have k1 := HC1.out; have k2 := HCU.out; have k3 := HCK.out; go_simp; try (with_reducible rfl))
  try simp only [Act.put, List.setIfInBounds_toArray, List.set_cons_zero, List.set_cons_succ]
  refine Late.Goes.takeT (i := 19) (v := ?_) (by simp only [List.getElem?_toArray, List.getElem?_cons_succ, List.getElem?_cons_zero]; rfl) (by kernel_rfl) (by kernel_rfl) (by kernel_rfl) (by kernel_rfl) (by kernel_rfl) (by exact fun _ _ _ h => h) (Or.inl ⟨by rfl, ?_⟩) hH ?_
  rotate_left
  · (intro wy hSw; (try dsimp only at hSw); subst hSw; have k0 := HC0.out; have k1 := HC1.out; have k2 := HCU.out; have k3 := HCK.out; go_simp; try (with_reducible rfl))
  try simp only [Act.put, List.setIfInBounds_toArray, List.set_cons_zero, List.set_cons_succ]
  refine Late.Goes.takeT (i := 20) (v := ?_) (by simp only [List.getElem?_toArray, List.getElem?_cons_succ, List.getElem?_cons_zero]; rfl) (by kernel_rfl) (by kernel_rfl) (by kernel_rfl) (by kernel_rfl) (by kernel_rfl) (by exact fun _ _ _ h => h) (Or.inl ⟨by rfl, ?_⟩) hH ?_
  rotate_left
  · (intro wy hSw; (try dsimp only at hSw); subst hSw; have k0 := HC0.out; have k1 := HC1.out; have k2 := HCU.out; have k3 := HCK.out; go_simp; try (with_reducible rfl))
  try simp only [Act.put, List.setIfInBounds_toArray, List.set_cons_zero, List.set_cons_succ]
  refine Late.Goes.takeT (i := 21) (v := ?_) (by simp only [List.getElem?_toArray, List.getElem?_cons_succ, List.getElem?_cons_zero]; rfl) (by kernel_rfl) (by kernel_rfl) (by kernel_rfl) (by kernel_rfl) (by kernel_rfl) (by exact fun _ _ _ h => h) (Or.inl ⟨by rfl, ?_⟩) hH ?_
  rotate_left
  · (intro wy hSw; (try dsimp only at hSw); subst hSw; have k0 := HC0.out; have k1 := HC1.out; have k2 := HCU.out; have k3 := HCK.out; go_simp; try (with_reducible rfl))
  try simp only [Act.put, List.setIfInBounds_toArray, List.set_cons_zero, List.set_cons_succ]
  refine Late.Goes.one (i := 13) (by kernel_rfl) (by simp only [List.getElem?_toArray, List.getElem?_cons_succ, List.getElem?_cons_zero]; rfl) (fun K hK => ?_)
  clear hH
  go_simp
  go_at_call 16
  refine HLN.out.mono ?_
  rintro x w' ⟨rfl, rfl⟩
  refine hK.out _ _ ?_ (fun hH => ?_)
  · exact fun _ => rfl
  clear hK K
  have hH := hH rfl
  try simp only [Act.put, List.setIfInBounds_toArray, List.set_cons_zero, List.set_cons_succ]
  refine Late.Goes.takeT (i := 14) (v := ?_) (by simp only [List.getElem?_toArray, List.getElem?_cons_succ, List.getElem?_cons_zero]; rfl) (by kernel_rfl) (by kernel_rfl) (by kernel_rfl) (by kernel_rfl) (by kernel_rfl) (by exact fun _ _ _ h => h) (Or.inl ⟨by rfl, ?_⟩) hH ?_
  rotate_left
  · (intro wy hSw; (try dsimp only at hSw); subst hSw; have k0 := HC0.out; have k1 := HC1.out; have k2 := HCU.out; have k3 := HCK.out; go_simp; try (with_reducible rfl))
  try simp only [Act.put, List.setIfInBounds_toArray, List.set_cons_zero, List.set_cons_succ]
  refine Late.Goes.takeT (i := 15) (v := ?_) (by simp only [List.getElem?_toArray, List.getElem?_cons_succ, List.getElem?_cons_zero]; rfl) (by kernel_rfl) (by kernel_rfl) (by kernel_rfl) (by kernel_rfl) (by kernel_rfl) (by exact fun _ _ _ h => h) (Or.inl ⟨by rfl, ?_⟩) hH ?_
  rotate_left
  · (intro wy hSw; (try dsimp only at hSw); subst hSw; have k0 := HC0.out; have k1 := HC1.out; have k2 := HCU.out; have k3 := HCK.out; go_simp; try (with_reducible rfl))
  try simp only [Act.put, List.setIfInBounds_toArray, List.set_cons_zero, List.set_cons_succ]
  refine Late.Goes.takeT (i := 22) (v := ?_) (by simp only [List.getElem?_toArray, List.getElem?_cons_succ, List.getElem?_cons_zero]; rfl) (by kernel_rfl) (by kernel_rfl) (by kernel_rfl) (by kernel_rfl) (by kernel_rfl) (by exact fun _ _ _ h => h) (Or.inl ⟨by rfl, ?_⟩) hH ?_
  rotate_left
  · (intro wy hSw; (try dsimp only at hSw); subst hSw; have k0 := HC0.out; have k1 := HC1.out; have k2 := HCU.out; have k3 := HCK.out; go_simp; try (with_reducible rfl))
  try simp only [Act.put, List.setIfInBounds_toArray, List.set_cons_zero, List.set_cons_succ]
  refine Late.Goes.takeT (i := 23) (v := ?_) (by simp only [List.getElem?_toArray, List.getElem?_cons_succ, List.getElem?_cons_zero]; rfl) (by kernel_rfl) (by kernel_rfl) (by kernel_rfl) (by kernel_rfl) (by kernel_rfl) (by exact fun _ _ _ h => h) (Or.inl ⟨by rfl, ?_⟩) hH ?_
  rotate_left
  · (intro wy hSw; (try dsimp only at hSw); subst hSw; have k0 := HC0.out; have k1 := HC1.out; have k2 := HCU.out; have k3 := HCK.out; go_simp; try (with_reducible rfl))
  try simp only [Act.put, List.setIfInBounds_toArray, List.set_cons_zero, List.set_cons_succ]
  refine Late.Goes.done (by kernel_rfl) ?_ _
  have HPW := Lib.hid (show Pow ((2 * n : Nat) : Int) from by
    have h1 := (HGD.out.part HT.out (k := 0) (by omega)).pow30 (by omega)
    rw [part_len HGD.out (by omega), HA.out.len] at h1
    exact h1)
  have h2n : 2 * n ≤ 4000 := by have h1 := HGD.out.part HT.out (k := 0) (by omega); have h2 := h1.size; rw [part_len HGD.out (by omega), HA.out.len] at h2; omega
  have m1 : ∀ w, (Instr.makeSlice 43 (.int .i64 (2 * (n : Int))) (.int .i64 (2 * (n : Int)))).run Tryd.prog w = .ok (.slice (some ⟨w.heap.size, 0, none⟩) (2 * n) (2 * n)) (w.alloc (.cells (ecl (List.replicate (2 * n) zero)).toArray 38)) := fun w => by
    have := made_ents w (2 * n) (by omega)
    rw [show ((2 * n : Nat) : Int) = 2 * (n : Int) by omega] at this
    exact this
  have m2 : ∀ w, (Instr.makeSlice 44 (.int .i64 (2 * (n : Int))) (.int .i64 (2 * (n : Int)))).run Tryd.prog w = .ok (.slice (some ⟨w.heap.size, 0, none⟩) (2 * n) (2 * n)) (w.alloc (.cells (List.replicate (2 * n) (.bool false)).toArray 4)) := fun w => by
    have := made_bools w (2 * n) (by omega)
    rw [show ((2 * n : Nat) : Int) = 2 * (n : Int) by omega] at this
    exact this
  go_wp2_with fail
  have HD2 := Lib.hid ((But.refl (fun _ => False) W.drew).drew)
  have HA2 := Lib.hid (HA.out.but HD2.out (fun h => h) (fun h => h) (fun h => h))
  have HE2 := Lib.hid (HE.out.but HD2.out (fun h => h))
  have HB2 := Lib.hid (HB.out.trans HD2.out (fun j hj h => h))
  have HS0 := Lib.hid (fun V (hV : But (fun _ => False) W.drew.drew V) => show V.cell? ⟨rp, 0, none⟩ = some (.slice (some ⟨ol, 0, none⟩) n n) from (HA2.out.but hV (fun h => h) (fun h => h) (fun h => h)).blk.cell 0)
  refine Late.region_goes (fun V => But (fun _ => False) W.drew.drew V) (fun _ => false) (by kernel_rfl) ?_ (fun hH => ?_)
  · exact But.refl _ _
  refine Late.Goes.takeT (i := 0) (v := ?_) (by simp only [List.getElem?_toArray, List.getElem?_cons_succ, List.getElem?_cons_zero]; rfl) (by kernel_rfl) (by kernel_rfl) (by kernel_rfl) (by kernel_rfl) (by kernel_rfl) (by exact fun _ _ _ h => h) (Or.inl ⟨by rfl, ?_⟩) hH ?_
  rotate_left
  · (intro wy hSw; (try dsimp only at hSw); have k0 := HS0.out wy hSw; go_simp; try (with_reducible rfl))
  try simp only [Act.put, List.setIfInBounds_toArray, List.set_cons_zero, List.set_cons_succ]
  refine Late.Goes.takeT (i := 1) (v := ?_) (by simp only [List.getElem?_toArray, List.getElem?_cons_succ, List.getElem?_cons_zero]; rfl) (by kernel_rfl) (by kernel_rfl) (by kernel_rfl) (by kernel_rfl) (by kernel_rfl) (by exact fun _ _ _ h => h) (Or.inl ⟨by rfl, ?_⟩) hH ?_
  rotate_left
  · (intro wy hSw; (try dsimp only at hSw); have k0 := HS0.out wy hSw; go_simp; try (with_reducible rfl))
  try simp only [Act.put, List.setIfInBounds_toArray, List.set_cons_zero, List.set_cons_succ]
  refine Late.Goes.takeT (i := 2) (v := ?_) (by simp only [List.getElem?_toArray, List.getElem?_cons_succ, List.getElem?_cons_zero]; rfl) (by kernel_rfl) (by kernel_rfl) (by kernel_rfl) (by kernel_rfl) (by kernel_rfl) (by exact fun _ _ _ h => h) (Or.inl ⟨by rfl, ?_⟩) hH ?_
  rotate_left
  · (intro wy hSw; (try dsimp only at hSw); have k0 := HS0.out wy hSw; go_simp; try (with_reducible rfl))
  try simp only [Act.put, List.setIfInBounds_toArray, List.set_cons_zero, List.set_cons_succ]
  refine Late.Goes.takeT (i := 3) (v := ?_) (by simp only [List.getElem?_toArray, List.getElem?_cons_succ, List.getElem?_cons_zero]; rfl) (by kernel_rfl) (by kernel_rfl) (by kernel_rfl) (by kernel_rfl) (by kernel_rfl) (by exact fun _ _ _ h => h) (Or.inl ⟨by rfl, ?_⟩) hH ?_
  rotate_left
  · (intro wy hSw; (try dsimp only at hSw); have k0 := HS0.out wy hSw; go_simp; try (with_reducible rfl))
  try simp only [Act.put, List.setIfInBounds_toArray, List.set_cons_zero, List.set_cons_succ]
  refine Late.Goes.takeT (i := 4) (v := ?_) (by simp only [List.getElem?_toArray, List.getElem?_cons_succ, List.getElem?_cons_zero]; rfl) (by kernel_rfl) (by kernel_rfl) (by kernel_rfl) (by kernel_rfl) (by kernel_rfl) (by exact fun _ _ _ h => h) (Or.inl ⟨by rfl, ?_⟩) hH ?_
  rotate_left
  · (intro wy hSw; (try dsimp only at hSw); have k0 := HS0.out wy hSw; go_simp; try (with_reducible rfl))
  try simp only [Act.put, List.setIfInBounds_toArray, List.set_cons_zero, List.set_cons_succ]
  refine Late.Goes.takeT (i := 5) (v := ?_) (by simp only [List.getElem?_toArray, List.getElem?_cons_succ, List.getElem?_cons_zero]; rfl) (by kernel_rfl) (by kernel_rfl) (by kernel_rfl) (by kernel_rfl) (by kernel_rfl) (by exact fun _ _ _ h => h) (Or.inl ⟨by rfl, ?_⟩) hH ?_
  rotate_left
  · (intro wy hSw; (try dsimp only at hSw); have k0 := HS0.out wy hSw; go_simp; try (with_reducible rfl))
  try simp only [Act.put, List.setIfInBounds_toArray, List.set_cons_zero, List.set_cons_succ]
  refine Late.Goes.takeT (i := 7) (v := ?_) (by simp only [List.getElem?_toArray, List.getElem?_cons_succ, List.getElem?_cons_zero]; rfl) (by kernel_rfl) (by kernel_rfl) (by kernel_rfl) (by kernel_rfl) (by kernel_rfl) (by exact fun _ _ _ h => h) (Or.inl ⟨by rfl, ?_⟩) hH ?_
  rotate_left
  · (intro wy hSw; (try dsimp only at hSw); have k0 := HS0.out wy hSw; go_simp; try (with_reducible rfl))
  try simp only [Act.put, List.setIfInBounds_toArray, List.set_cons_zero, List.set_cons_succ]
  refine Late.Goes.takeT (i := 8) (v := ?_) (by simp only [List.getElem?_toArray, List.getElem?_cons_succ, List.getElem?_cons_zero]; rfl) (by kernel_rfl) (by kernel_rfl) (by kernel_rfl) (by kernel_rfl) (by kernel_rfl) (by exact fun _ _ _ h => h) (Or.inl ⟨by rfl, ?_⟩) hH ?_
  rotate_left
  · (intro wy hSw; (try dsimp only at hSw); have k0 := HS0.out wy hSw; go_simp; try (with_reducible rfl))
  try simp only [Act.put, List.setIfInBounds_toArray, List.set_cons_zero, List.set_cons_succ]
  refine Late.Goes.takeT (i := 9) (v := ?_) (by simp only [List.getElem?_toArray, List.getElem?_cons_succ, List.getElem?_cons_zero]; rfl) (by kernel_rfl) (by kernel_rfl) (by kernel_rfl) (by kernel_rfl) (by kernel_rfl) (by exact fun _ _ _ h => h) (Or.inl ⟨by rfl, ?_⟩) hH ?_
  rotate_left
  · (intro wy hSw; (try dsimp only at hSw); have k0 := HS0.out wy hSw; go_simp; try (with_reducible rfl))
  try simp only [Act.put, List.setIfInBounds_toArray, List.set_cons_zero, List.set_cons_succ]
  refine Late.Goes.takeT (i := 10) (v := ?_) (by simp only [List.getElem?_toArray, List.getElem?_cons_succ, List.getElem?_cons_zero]; rfl) (by kernel_rfl) (by kernel_rfl) (by kernel_rfl) (by kernel_rfl) (by kernel_rfl) (by exact fun _ _ _ h => h) (Or.inl ⟨by rfl, ?_⟩) hH ?_
  rotate_left
  · (intro wy hSw; (try dsimp only at hSw); have k0 := HS0.out wy hSw; go_simp; try (with_reducible rfl))
  try simp only [Act.put, List.setIfInBounds_toArray, List.set_cons_zero, List.set_cons_succ]
  refine Late.Goes.takeT (i := 11) (v := ?_) (by simp only [List.getElem?_toArray, List.getElem?_cons_succ, List.getElem?_cons_zero]; rfl) (by kernel_rfl) (by kernel_rfl) (by kernel_rfl) (by kernel_rfl) (by kernel_rfl) (by exact fun _ _ _ h => h) (Or.inl ⟨by rfl, ?_⟩) hH ?_
  rotate_left
  · (intro wy hSw; (try dsimp only at hSw); have k0 := HS0.out wy hSw; go_simp; try (with_reducible rfl))
  try simp only [Act.put, List.setIfInBounds_toArray, List.set_cons_zero, List.set_cons_succ]
  refine Late.Goes.takeT (i := 12) (v := ?_) (by simp only [List.getElem?_toArray, List.getElem?_cons_succ, List.getElem?_cons_zero]; rfl) (by kernel_rfl) (by kernel_rfl) (by kernel_rfl) (by kernel_rfl) (by kernel_rfl) (by exact fun _ _ _ h => h) (Or.inl ⟨by rfl, ?_⟩) hH ?_
  rotate_left
  · (intro wy hSw; (try dsimp only at hSw); have k0 := HS0.out wy hSw; go_simp; try (with_reducible rfl))
  try simp only [Act.put, List.setIfInBounds_toArray, List.set_cons_zero, List.set_cons_succ]
  refine Late.Goes.two (i := 6) (j := 13) (by kernel_rfl) (by simp only [List.getElem?_toArray, List.getElem?_cons_succ, List.getElem?_cons_zero]; rfl) (by simp only [List.getElem?_toArray, List.getElem?_cons_succ, List.getElem?_cons_zero]; rfl) (fun K hK => ?_) (fun K hK => ?_) <;> clear hH
  · go_simp
    have H1 := Lib.hid (show Blk (W.drew.drew.alloc (.cells (ecl (List.replicate (2 * n) zero)).toArray 38)) W.heap.size 38 (ecl (List.replicate (2 * n) zero)).toArray ∧ But (fun _ => False) W.drew.drew (W.drew.drew.alloc (.cells (ecl (List.replicate (2 * n) zero)).toArray 38)) from ⟨Blk.new _ _ _, (But.refl _ _).alloc _⟩)
    change K _ (W.drew.drew.alloc (.cells (ecl (List.replicate (2 * n) zero)).toArray 38))
    obtain ⟨gl, hgl⟩ : ∃ g, g = W.heap.size := ⟨_, rfl⟩
    have Hgl := Lib.hid (show gl = W.heap.size from hgl)
    rw [← hgl] at H1 ⊢
    clear hgl
    generalize W.drew.drew.alloc (.cells (ecl (List.replicate (2 * n) zero)).toArray 38) = w1 at H1 ⊢
    refine hK.out _ _ ?_ (fun hH => ?_)
    · exact fun _ => H1.out.2
    clear hK K
    have hH := hH rfl
    try simp only [Act.put, List.setIfInBounds_toArray, List.set_cons_zero, List.set_cons_succ]
    refine Late.Goes.one (i := 13) (by kernel_rfl) (by simp only [List.getElem?_toArray, List.getElem?_cons_succ, List.getElem?_cons_zero]; rfl) (fun K hK => ?_)
    clear hH
    go_simp
    have H2 := Lib.hid (show Blk (w1.alloc (.cells (List.replicate (2 * n) (.bool false)).toArray 4)) w1.heap.size 4 (List.replicate (2 * n) (.bool false)).toArray ∧ Blk (w1.alloc (.cells (List.replicate (2 * n) (.bool false)).toArray 4)) gl 38 (ecl (List.replicate (2 * n) zero)).toArray ∧ But (fun _ => False) W.drew.drew (w1.alloc (.cells (List.replicate (2 * n) (.bool false)).toArray 4)) from ⟨Blk.new _ _ _, H1.out.1.but ((But.refl (fun _ => False) w1).alloc _) (fun h => h), H1.out.2.alloc _⟩)
    change K _ (w1.alloc (.cells (List.replicate (2 * n) (.bool false)).toArray 4))
    obtain ⟨gu, hgu⟩ : ∃ g, g = w1.heap.size := ⟨_, rfl⟩
    have Hgu := Lib.hid (show gu = w1.heap.size from hgu)
    rw [← hgu] at H2 ⊢
    clear hgu
    generalize w1.alloc (.cells (List.replicate (2 * n) (.bool false)).toArray 4) = w2 at H2 ⊢
    refine hK.out _ _ ?_ (fun hH => ?_)
    · exact fun _ => H2.out.2.2
    clear hK K
    have hH := hH rfl
    try simp only [Act.put, List.setIfInBounds_toArray, List.set_cons_zero, List.set_cons_succ]
    refine Late.Goes.takeT (i := 14) (v := ?_) (by simp only [List.getElem?_toArray, List.getElem?_cons_succ, List.getElem?_cons_zero]; rfl) (by kernel_rfl) (by kernel_rfl) (by kernel_rfl) (by kernel_rfl) (by kernel_rfl) (by exact fun _ _ _ h => h) (Or.inl ⟨by rfl, ?_⟩) hH ?_
    rotate_left
    · (intro wy hSw; (try dsimp only at hSw); have k0 := HS0.out wy hSw; go_simp; try (with_reducible rfl))
    try simp only [Act.put, List.setIfInBounds_toArray, List.set_cons_zero, List.set_cons_succ]
    refine Late.Goes.one (i := 15) (by kernel_rfl) (by simp only [List.getElem?_toArray, List.getElem?_cons_succ, List.getElem?_cons_zero]; rfl) (fun K hK => ?_)
    clear hH
    go_simp
    have H3 := Lib.hid (show Blk (w2.alloc (.cells #[.slice (some ⟨gl, 0, none⟩) (2 * n) (2 * n), .slice (some ⟨gu, 0, none⟩) (2 * n) (2 * n)] 46)) w2.heap.size 46 #[.slice (some ⟨gl, 0, none⟩) (2 * n) (2 * n), .slice (some ⟨gu, 0, none⟩) (2 * n) (2 * n)] ∧ But (fun _ => False) w2 (w2.alloc (.cells #[.slice (some ⟨gl, 0, none⟩) (2 * n) (2 * n), .slice (some ⟨gu, 0, none⟩) (2 * n) (2 * n)] 46)) from ⟨Blk.new _ _ _, (But.refl _ _).alloc _⟩)
    change K _ (w2.alloc (.cells #[.slice (some ⟨gl, 0, none⟩) (2 * n) (2 * n), .slice (some ⟨gu, 0, none⟩) (2 * n) (2 * n)] 46))
    obtain ⟨np, hnp⟩ : ∃ g, g = w2.heap.size := ⟨_, rfl⟩
    have Hnp := Lib.hid (show np = w2.heap.size from hnp)
    rw [← hnp] at H3 ⊢
    clear hnp
    generalize w2.alloc (.cells #[.slice (some ⟨gl, 0, none⟩) (2 * n) (2 * n), .slice (some ⟨gu, 0, none⟩) (2 * n) (2 * n)] 46) = w4 at H3 ⊢
    refine hK.out _ _ ?_ (fun hH => ?_)
    · exact fun _ => (H2.out.2.2.trans H3.out.2 (fun j hj h => h))
    clear hK K
    have hH := hH rfl
    try simp only [Act.put, List.setIfInBounds_toArray, List.set_cons_zero, List.set_cons_succ]
    refine Late.Goes.takeT (i := 16) (v := ?_) (by simp only [List.getElem?_toArray, List.getElem?_cons_succ, List.getElem?_cons_zero]; rfl) (by kernel_rfl) (by kernel_rfl) (by kernel_rfl) (by kernel_rfl) (by kernel_rfl) (by exact fun _ _ _ h => h) (Or.inl ⟨by rfl, ?_⟩) hH ?_
    rotate_left
    · (intro wy hSw; (try dsimp only at hSw); have k0 := HS0.out wy hSw; go_simp; try (with_reducible rfl))
    try simp only [Act.put, List.setIfInBounds_toArray, List.set_cons_zero, List.set_cons_succ]
    refine Late.Goes.done (by kernel_rfl) ?_ _
    have HR := Lib.hid (show RLo w4 np gl gu (List.replicate (2 * n) none) (List.replicate (2 * n) zero) (2 * n) from RLo.fresh H3.out.1 (H2.out.2.1.but H3.out.2 (fun h => h)) (H2.out.1.but H3.out.2 (fun h => h)) (by omega) (by omega) HPW.out)
    have hbb := H2.out.2.2.trans H3.out.2 (fun j hj h => h)
    have HAo := Lib.hid (HA2.out.but hbb (fun h => h) (fun h => h) (fun h => h))
    have HEo := Lib.hid (HE2.out.but hbb (fun h => h))
    have HBo := Lib.hid (HB2.out.trans hbb (fun j hj h => h))
    have hsz : w.heap.size ≤ gl ∧ w.heap.size ≤ gu ∧ w.heap.size ≤ np ∧ b3 < gl ∧ b3 < gu ∧ gl < w4.heap.size ∧ gu < w4.heap.size := by
      have h9 : W.drew.drew.heap.size = W.heap.size := rfl
      have h8 : W.drew.heap.size = W.heap.size := rfl
      have h7 := HB.out.size
      have h6 := H1.out.2.size
      have h5 := H2.out.2.2.size
      have h4 := Hgl.out
      have h3 := Hgu.out
      have h2 := Hnp.out
      have h1 := HE.out.lt
      have h0 := HR.out.lrow.lt
      have h00 := HR.out.urow.lt
      omega
    have HSZ := Lib.hid hsz
    clear hbb hsz HA2 HE2 HB2 H1 H2 H3 Hgl Hgu Hnp HS0 HC0 HC1 HCU HCK HF HLN HD2 HA HE HB m1 m2 hH
    go_wp2_with fail
    go_loopw [5] (fun x wr => ∃ (k : Nat) (X' : List Ent), k ≤ n ∧ x = .int .i64 (k : Int) ∧ RLo wr np gl gu (part T (2 * n) k) X' (2 * n) ∧ But (fun k => k = gl ∨ k = gu) w4 wr) (fun x _ => n - (intOf x).toNat)
    case atStart => exact ⟨0, _, by omega, rfl, by rw [part_zero]; exact HR.out, But.refl _ _⟩
    case round =>
      obtain ⟨k, X', hk, rfl, hN, hB4⟩ := hrel
      have hO := HAo.out.but hB4 (by have := HLT.out; have := HSZ.out; omega) (by have := HLT.out; have := HSZ.out; omega) (by have := HLT.out; have := HSZ.out; omega)
      have hlen := HAo.out.len
      have c0 : wr.cell? ⟨rp, 0, none⟩ = some (.slice (some ⟨ol, 0, none⟩) n n) := hO.blk.cell 0
      have HN := Lib.hid hN
      have HO := Lib.hid hO
      have HB4 := Lib.hid hB4
      have HL := Lib.hid hlen
      clear hN hB4 hlen
      by_cases hlt : k < n
      · have c1 : wr.cell? ⟨rp, 1, none⟩ = some (.slice (some ⟨ou, 0, none⟩) n n) := HO.out.blk.cell 1
        have u0 := hO.used hlt
        clear hO
        cases hq : look T k with
        | none =>
          rw [hq] at u0
          have u1 : wr.cell? ⟨ou, k, none⟩ = some (.bool false) := u0
          have HPN := Lib.hid (part_none (T := T) (m := 2 * n) (k := k) (by rw [HL.out]; exact hlt) hq)
          clear u0 hq
          go_wp2_with fail
          go_roundw
          case rel => exact ⟨k + 1, X', by omega, by go_num, by rw [HPN.out]; exact HN.out, HB4.out⟩
          case measure => simp [intOf]; omega
        | some e1 =>
          rw [hq] at u0
          have u1 : wr.cell? ⟨ou, k, none⟩ = some (.bool true) := u0
          have HPS := Lib.hid (part_some (T := T) (m := 2 * n) (k := k) (by rw [HL.out]; exact hlt) hq)
          have hsm := HO.out.small e1 (look_mem.2 ⟨k, hq⟩)
          have hfr : free (part T (2 * n) k) := by
            have h1 := (HGD.out.part HT.out (k := k) (by rw [HL.out]; omega)).free
            rw [HL.out] at h1
            exact h1
          have HRG := Lib.hid (HO.out.range (HO.out.same k e1 hq))
          have HLY := Lib.hid (rlay_any HN.out hfr e1 hsm)
          clear u0 hq hfr
          go_wp2_with (refine wpList_load_mid rfl 38 _ rfl ol (k * 7) rfl (ecells e1) _ HRG.out Tryd.underlying38 rfl (by rw [ecells_length]; exact rentry_size) ?_)
          refine HLY.out.mono ?_
          rintro x w5 ⟨rfl, hK5, hB5⟩
          have HK5 := Lib.hid hK5
          have HB5 := Lib.hid (HB4.out.trans' hB5)
          clear hK5 hB5 HLY c0 c1 u1
          go_wp2_with fail
          go_roundw
          case rel => exact ⟨k + 1, _, by omega, by go_num, by rw [HPS.out]; exact HK5.out, HB5.out⟩
          case measure => simp [intOf]; omega
      · have hkn : k = n := by omega
        have HN2 := Lib.hid (show RLo wr np gl gu (again T (2 * T.length)) X' (2 * n) from by rw [again, HL.out, ← hkn]; rw [← hkn] at HN; exact HN.out)
        have HSW := Lib.hid (RLo.swap HO.out HN2.out)
        have hne : np ≠ rp := by have := HLT.out; have := HSZ.out; omega
        have d0 : wr.cell? ⟨np, 0, none⟩ = some (.slice (some ⟨gl, 0, none⟩) (2 * n) (2 * n)) := HN2.out.blk.cell 0
        have f0 : wr.frozen? ⟨rp, 0, none⟩ = false := HO.out.blk.frozen 0
        have d1 : (wr.setCell ⟨rp, 0, none⟩ (.slice (some ⟨gl, 0, none⟩) (2 * n) (2 * n))).cell? ⟨np, 1, none⟩ = some (.slice (some ⟨gu, 0, none⟩) (2 * n) (2 * n)) := (HN2.out.blk.but ((But.refl (fun k => k = rp) wr).setCell (p := ⟨rp, 0, none⟩) rfl _) hne).cell 1
        have f1 : (wr.setCell ⟨rp, 0, none⟩ (.slice (some ⟨gl, 0, none⟩) (2 * n) (2 * n))).frozen? ⟨rp, 1, none⟩ = false := (HO.out.blk.set_ 0 _).frozen 1
        have d2 : (wr.setCell ⟨rp, 0, none⟩ (.slice (some ⟨gl, 0, none⟩) (2 * n) (2 * n))).cell? ⟨rp, 1, none⟩ = some (.slice (some ⟨ou, 0, none⟩) n n) := (HO.out.blk.set_ 0 _).cell 1
        have HBX := Lib.hid (((But.refl (fun k => k = rp) wr).setCell (p := ⟨rp, 0, none⟩) rfl (.slice (some ⟨gl, 0, none⟩) (2 * n) (2 * n))).setCell (p := ⟨rp, 1, none⟩) rfl (.slice (some ⟨gu, 0, none⟩) (2 * n) (2 * n)))
        have HE5 := Lib.hid ((HEo.out.but HB4.out (by have := HSZ.out; omega)).but HBX.out (by have := HB3.out; have := HLT.out; omega))
        have HRE := Lib.hid (ent_range HE5.out)
        have hga : Good (again T (2 * T.length)) i := HGD.out.wide.resolve_right (fun k => k HT.out)
        have HLY := Lib.hid (rlay_any HSW.out hga.free e hs)
        have HBY := Lib.hid (show But (fun k => k = rp ∨ k = ol ∨ k = ou) w ((wr.setCell ⟨rp, 0, none⟩ (.slice (some ⟨gl, 0, none⟩) (2 * n) (2 * n))).setCell ⟨rp, 1, none⟩ (.slice (some ⟨gu, 0, none⟩) (2 * n) (2 * n))) from
          ((HBo.out.trans HB4.out (fun j hj h => by have := HSZ.out; omega)).mono (T := fun k => k = rp ∨ k = ol ∨ k = ou) (fun j hj h => h.elim)).trans HBX.out (fun j hj h => .inl h))
        clear hO hga HN HB4
        go_wp2_with (first
          | (refine wpList_load_mid rfl 38 _ rfl b3 0 rfl (ecells e) _ HRE.out Tryd.underlying38 rfl (by rw [ecells_length]; exact rentry_size) ?_))
        change Calls _ _ _ ((wr.setCell ⟨rp, 0, none⟩ (.slice (some ⟨gl, 0, none⟩) (2 * n) (2 * n))).setCell ⟨rp, 1, none⟩ (.slice (some ⟨gu, 0, none⟩) (2 * n) (2 * n))) _
        clear d0 f0 d1 f1 d2 c0
        refine HLY.out.mono ?_
        rintro x W6 ⟨rfl, hK6, hB6⟩
        have HR6 := Lib.hid (show RPut w rp ol ou T e W6 from ⟨gl, gu, _, _, by rw [put_tight HAK.out HT.out]; exact hK6, .inr HSZ.out.1, .inr HSZ.out.2.1, HBY.out.trans hB6 (fun j hj h => by have := HSZ.out; omega)⟩)
        clear hK6 hB6 HLY
        go_wp2_with fail
        go_end0
        exact ⟨rfl, HR6.out⟩
  · go_simp
    have H1 := Lib.hid (show Blk (W.drew.drew.alloc (.cells (List.replicate (2 * n) (.bool false)).toArray 4)) W.heap.size 4 (List.replicate (2 * n) (.bool false)).toArray ∧ But (fun _ => False) W.drew.drew (W.drew.drew.alloc (.cells (List.replicate (2 * n) (.bool false)).toArray 4)) from ⟨Blk.new _ _ _, (But.refl _ _).alloc _⟩)
    change K _ (W.drew.drew.alloc (.cells (List.replicate (2 * n) (.bool false)).toArray 4))
    obtain ⟨gu, hgu⟩ : ∃ g, g = W.heap.size := ⟨_, rfl⟩
    have Hgu := Lib.hid (show gu = W.heap.size from hgu)
    rw [← hgu] at H1 ⊢
    clear hgu
    generalize W.drew.drew.alloc (.cells (List.replicate (2 * n) (.bool false)).toArray 4) = w1 at H1 ⊢
    refine hK.out _ _ ?_ (fun hH => ?_)
    · exact fun _ => H1.out.2
    clear hK K
    have hH := hH rfl
    try simp only [Act.put, List.setIfInBounds_toArray, List.set_cons_zero, List.set_cons_succ]
    refine Late.Goes.one (i := 6) (by kernel_rfl) (by simp only [List.getElem?_toArray, List.getElem?_cons_succ, List.getElem?_cons_zero]; rfl) (fun K hK => ?_)
    clear hH
    go_simp
    have H2 := Lib.hid (show Blk (w1.alloc (.cells (ecl (List.replicate (2 * n) zero)).toArray 38)) w1.heap.size 38 (ecl (List.replicate (2 * n) zero)).toArray ∧ Blk (w1.alloc (.cells (ecl (List.replicate (2 * n) zero)).toArray 38)) gu 4 (List.replicate (2 * n) (.bool false)).toArray ∧ But (fun _ => False) W.drew.drew (w1.alloc (.cells (ecl (List.replicate (2 * n) zero)).toArray 38)) from ⟨Blk.new _ _ _, H1.out.1.but ((But.refl (fun _ => False) w1).alloc _) (fun h => h), H1.out.2.alloc _⟩)
    change K _ (w1.alloc (.cells (ecl (List.replicate (2 * n) zero)).toArray 38))
    obtain ⟨gl, hgl⟩ : ∃ g, g = w1.heap.size := ⟨_, rfl⟩
    have Hgl := Lib.hid (show gl = w1.heap.size from hgl)
    rw [← hgl] at H2 ⊢
    clear hgl
    generalize w1.alloc (.cells (ecl (List.replicate (2 * n) zero)).toArray 38) = w2 at H2 ⊢
    refine hK.out _ _ ?_ (fun hH => ?_)
    · exact fun _ => H2.out.2.2
    clear hK K
    have hH := hH rfl
    try simp only [Act.put, List.setIfInBounds_toArray, List.set_cons_zero, List.set_cons_succ]
    refine Late.Goes.takeT (i := 14) (v := ?_) (by simp only [List.getElem?_toArray, List.getElem?_cons_succ, List.getElem?_cons_zero]; rfl) (by kernel_rfl) (by kernel_rfl) (by kernel_rfl) (by kernel_rfl) (by kernel_rfl) (by exact fun _ _ _ h => h) (Or.inl ⟨by rfl, ?_⟩) hH ?_
    rotate_left
    · (intro wy hSw; (try dsimp only at hSw); have k0 := HS0.out wy hSw; go_simp; try (with_reducible rfl))
    try simp only [Act.put, List.setIfInBounds_toArray, List.set_cons_zero, List.set_cons_succ]
    refine Late.Goes.one (i := 15) (by kernel_rfl) (by simp only [List.getElem?_toArray, List.getElem?_cons_succ, List.getElem?_cons_zero]; rfl) (fun K hK => ?_)
    clear hH
    go_simp
    have H3 := Lib.hid (show Blk (w2.alloc (.cells #[.slice (some ⟨gl, 0, none⟩) (2 * n) (2 * n), .slice (some ⟨gu, 0, none⟩) (2 * n) (2 * n)] 46)) w2.heap.size 46 #[.slice (some ⟨gl, 0, none⟩) (2 * n) (2 * n), .slice (some ⟨gu, 0, none⟩) (2 * n) (2 * n)] ∧ But (fun _ => False) w2 (w2.alloc (.cells #[.slice (some ⟨gl, 0, none⟩) (2 * n) (2 * n), .slice (some ⟨gu, 0, none⟩) (2 * n) (2 * n)] 46)) from ⟨Blk.new _ _ _, (But.refl _ _).alloc _⟩)
    change K _ (w2.alloc (.cells #[.slice (some ⟨gl, 0, none⟩) (2 * n) (2 * n), .slice (some ⟨gu, 0, none⟩) (2 * n) (2 * n)] 46))
    obtain ⟨np, hnp⟩ : ∃ g, g = w2.heap.size := ⟨_, rfl⟩
    have Hnp := Lib.hid (show np = w2.heap.size from hnp)
    rw [← hnp] at H3 ⊢
    clear hnp
    generalize w2.alloc (.cells #[.slice (some ⟨gl, 0, none⟩) (2 * n) (2 * n), .slice (some ⟨gu, 0, none⟩) (2 * n) (2 * n)] 46) = w4 at H3 ⊢
    refine hK.out _ _ ?_ (fun hH => ?_)
    · exact fun _ => (H2.out.2.2.trans H3.out.2 (fun j hj h => h))
    clear hK K
    have hH := hH rfl
    try simp only [Act.put, List.setIfInBounds_toArray, List.set_cons_zero, List.set_cons_succ]
    refine Late.Goes.takeT (i := 16) (v := ?_) (by simp only [List.getElem?_toArray, List.getElem?_cons_succ, List.getElem?_cons_zero]; rfl) (by kernel_rfl) (by kernel_rfl) (by kernel_rfl) (by kernel_rfl) (by kernel_rfl) (by exact fun _ _ _ h => h) (Or.inl ⟨by rfl, ?_⟩) hH ?_
    rotate_left
    · (intro wy hSw; (try dsimp only at hSw); have k0 := HS0.out wy hSw; go_simp; try (with_reducible rfl))
    try simp only [Act.put, List.setIfInBounds_toArray, List.set_cons_zero, List.set_cons_succ]
    refine Late.Goes.done (by kernel_rfl) ?_ _
    have HR := Lib.hid (show RLo w4 np gl gu (List.replicate (2 * n) none) (List.replicate (2 * n) zero) (2 * n) from RLo.fresh H3.out.1 (H2.out.1.but H3.out.2 (fun h => h)) (H2.out.2.1.but H3.out.2 (fun h => h)) (by omega) (by omega) HPW.out)
    have hbb := H2.out.2.2.trans H3.out.2 (fun j hj h => h)
    have HAo := Lib.hid (HA2.out.but hbb (fun h => h) (fun h => h) (fun h => h))
    have HEo := Lib.hid (HE2.out.but hbb (fun h => h))
    have HBo := Lib.hid (HB2.out.trans hbb (fun j hj h => h))
    have hsz : w.heap.size ≤ gl ∧ w.heap.size ≤ gu ∧ w.heap.size ≤ np ∧ b3 < gl ∧ b3 < gu ∧ gl < w4.heap.size ∧ gu < w4.heap.size := by
      have h9 : W.drew.drew.heap.size = W.heap.size := rfl
      have h8 : W.drew.heap.size = W.heap.size := rfl
      have h7 := HB.out.size
      have h6 := H1.out.2.size
      have h5 := H2.out.2.2.size
      have h4 := Hgl.out
      have h3 := Hgu.out
      have h2 := Hnp.out
      have h1 := HE.out.lt
      have h0 := HR.out.lrow.lt
      have h00 := HR.out.urow.lt
      omega
    have HSZ := Lib.hid hsz
    clear hbb hsz HA2 HE2 HB2 H1 H2 H3 Hgl Hgu Hnp HS0 HC0 HC1 HCU HCK HF HLN HD2 HA HE HB m1 m2 hH
    go_wp2_with fail
    go_loopw [5] (fun x wr => ∃ (k : Nat) (X' : List Ent), k ≤ n ∧ x = .int .i64 (k : Int) ∧ RLo wr np gl gu (part T (2 * n) k) X' (2 * n) ∧ But (fun k => k = gl ∨ k = gu) w4 wr) (fun x _ => n - (intOf x).toNat)
    case atStart => exact ⟨0, _, by omega, rfl, by rw [part_zero]; exact HR.out, But.refl _ _⟩
    case round =>
      obtain ⟨k, X', hk, rfl, hN, hB4⟩ := hrel
      have hO := HAo.out.but hB4 (by have := HLT.out; have := HSZ.out; omega) (by have := HLT.out; have := HSZ.out; omega) (by have := HLT.out; have := HSZ.out; omega)
      have hlen := HAo.out.len
      have c0 : wr.cell? ⟨rp, 0, none⟩ = some (.slice (some ⟨ol, 0, none⟩) n n) := hO.blk.cell 0
      have HN := Lib.hid hN
      have HO := Lib.hid hO
      have HB4 := Lib.hid hB4
      have HL := Lib.hid hlen
      clear hN hB4 hlen
      by_cases hlt : k < n
      · have c1 : wr.cell? ⟨rp, 1, none⟩ = some (.slice (some ⟨ou, 0, none⟩) n n) := HO.out.blk.cell 1
        have u0 := hO.used hlt
        clear hO
        cases hq : look T k with
        | none =>
          rw [hq] at u0
          have u1 : wr.cell? ⟨ou, k, none⟩ = some (.bool false) := u0
          have HPN := Lib.hid (part_none (T := T) (m := 2 * n) (k := k) (by rw [HL.out]; exact hlt) hq)
          clear u0 hq
          go_wp2_with fail
          go_roundw
          case rel => exact ⟨k + 1, X', by omega, by go_num, by rw [HPN.out]; exact HN.out, HB4.out⟩
          case measure => simp [intOf]; omega
        | some e1 =>
          rw [hq] at u0
          have u1 : wr.cell? ⟨ou, k, none⟩ = some (.bool true) := u0
          have HPS := Lib.hid (part_some (T := T) (m := 2 * n) (k := k) (by rw [HL.out]; exact hlt) hq)
          have hsm := HO.out.small e1 (look_mem.2 ⟨k, hq⟩)
          have hfr : free (part T (2 * n) k) := by
            have h1 := (HGD.out.part HT.out (k := k) (by rw [HL.out]; omega)).free
            rw [HL.out] at h1
            exact h1
          have HRG := Lib.hid (HO.out.range (HO.out.same k e1 hq))
          have HLY := Lib.hid (rlay_any HN.out hfr e1 hsm)
          clear u0 hq hfr
          go_wp2_with (refine wpList_load_mid rfl 38 _ rfl ol (k * 7) rfl (ecells e1) _ HRG.out Tryd.underlying38 rfl (by rw [ecells_length]; exact rentry_size) ?_)
          refine HLY.out.mono ?_
          rintro x w5 ⟨rfl, hK5, hB5⟩
          have HK5 := Lib.hid hK5
          have HB5 := Lib.hid (HB4.out.trans' hB5)
          clear hK5 hB5 HLY c0 c1 u1
          go_wp2_with fail
          go_roundw
          case rel => exact ⟨k + 1, _, by omega, by go_num, by rw [HPS.out]; exact HK5.out, HB5.out⟩
          case measure => simp [intOf]; omega
      · have hkn : k = n := by omega
        have HN2 := Lib.hid (show RLo wr np gl gu (again T (2 * T.length)) X' (2 * n) from by rw [again, HL.out, ← hkn]; rw [← hkn] at HN; exact HN.out)
        have HSW := Lib.hid (RLo.swap HO.out HN2.out)
        have hne : np ≠ rp := by have := HLT.out; have := HSZ.out; omega
        have d0 : wr.cell? ⟨np, 0, none⟩ = some (.slice (some ⟨gl, 0, none⟩) (2 * n) (2 * n)) := HN2.out.blk.cell 0
        have f0 : wr.frozen? ⟨rp, 0, none⟩ = false := HO.out.blk.frozen 0
        have d1 : (wr.setCell ⟨rp, 0, none⟩ (.slice (some ⟨gl, 0, none⟩) (2 * n) (2 * n))).cell? ⟨np, 1, none⟩ = some (.slice (some ⟨gu, 0, none⟩) (2 * n) (2 * n)) := (HN2.out.blk.but ((But.refl (fun k => k = rp) wr).setCell (p := ⟨rp, 0, none⟩) rfl _) hne).cell 1
        have f1 : (wr.setCell ⟨rp, 0, none⟩ (.slice (some ⟨gl, 0, none⟩) (2 * n) (2 * n))).frozen? ⟨rp, 1, none⟩ = false := (HO.out.blk.set_ 0 _).frozen 1
        have d2 : (wr.setCell ⟨rp, 0, none⟩ (.slice (some ⟨gl, 0, none⟩) (2 * n) (2 * n))).cell? ⟨rp, 1, none⟩ = some (.slice (some ⟨ou, 0, none⟩) n n) := (HO.out.blk.set_ 0 _).cell 1
        have HBX := Lib.hid (((But.refl (fun k => k = rp) wr).setCell (p := ⟨rp, 0, none⟩) rfl (.slice (some ⟨gl, 0, none⟩) (2 * n) (2 * n))).setCell (p := ⟨rp, 1, none⟩) rfl (.slice (some ⟨gu, 0, none⟩) (2 * n) (2 * n)))
        have HE5 := Lib.hid ((HEo.out.but HB4.out (by have := HSZ.out; omega)).but HBX.out (by have := HB3.out; have := HLT.out; omega))
        have HRE := Lib.hid (ent_range HE5.out)
        have hga : Good (again T (2 * T.length)) i := HGD.out.wide.resolve_right (fun k => k HT.out)
        have HLY := Lib.hid (rlay_any HSW.out hga.free e hs)
        have HBY := Lib.hid (show But (fun k => k = rp ∨ k = ol ∨ k = ou) w ((wr.setCell ⟨rp, 0, none⟩ (.slice (some ⟨gl, 0, none⟩) (2 * n) (2 * n))).setCell ⟨rp, 1, none⟩ (.slice (some ⟨gu, 0, none⟩) (2 * n) (2 * n))) from
          ((HBo.out.trans HB4.out (fun j hj h => by have := HSZ.out; omega)).mono (T := fun k => k = rp ∨ k = ol ∨ k = ou) (fun j hj h => h.elim)).trans HBX.out (fun j hj h => .inl h))
        clear hO hga HN HB4
        go_wp2_with (first
          | (refine wpList_load_mid rfl 38 _ rfl b3 0 rfl (ecells e) _ HRE.out Tryd.underlying38 rfl (by rw [ecells_length]; exact rentry_size) ?_))
        change Calls _ _ _ ((wr.setCell ⟨rp, 0, none⟩ (.slice (some ⟨gl, 0, none⟩) (2 * n) (2 * n))).setCell ⟨rp, 1, none⟩ (.slice (some ⟨gu, 0, none⟩) (2 * n) (2 * n))) _
        clear d0 f0 d1 f1 d2 c0
        refine HLY.out.mono ?_
        rintro x W6 ⟨rfl, hK6, hB6⟩
        have HR6 := Lib.hid (show RPut w rp ol ou T e W6 from ⟨gl, gu, _, _, by rw [put_tight HAK.out HT.out]; exact hK6, .inr HSZ.out.1, .inr HSZ.out.2.1, HBY.out.trans hB6 (fun j hj h => by have := HSZ.out; omega)⟩)
        clear hK6 hB6 HLY
        go_wp2_with fail
        go_end0
        exact ⟨rfl, HR6.out⟩
theorem rput_any (h : RLo w rp ol ou T X n) (hg : Good T i) (hi : i + 1 ≤ 400) (e : Ent) (hs : e.key.size ≤ 100) :
    Calls Tryd.prog 11 #[.pointer (some ⟨rp, 0, none⟩), ev e] w fun x w' => x = .returned (.tuple #[]) ∧ RPut w rp ol ou T e w' := by
  cases ha : ask T e.key with
  | some f => exact rput_there h hg hi e hs f ha
  | none =>
    by_cases ht : tight T
    · exact rput_tight h hg hi e hs ha ht
    · exact rput_wide h hg hi e hs ha ht
end
end Go.Proofs.YtabclecfamkanaaDoor.Key

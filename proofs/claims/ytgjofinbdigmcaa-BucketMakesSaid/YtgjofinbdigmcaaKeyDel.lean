/- Contract of the program's Delete. -/
import Derived.Test.YtgjofinbdigmcaaKeyClose
namespace Go.Proofs.Ytgjofinbdigmcaa.Key
open Go.Proofs.Ytgjofinbdigmcaa.Mem Go.Proofs.Ytgjofinbdigmcaa.Fnv
open Go.ChangeShapes Go.WideShapes Go.ChangeAt Go.RowKit
set_option linter.unusedVariables false
set_option linter.unusedSimpArgs false
section
variable {w : World} {p g i kn n : Nat} {T : Tab}
theorem KAt.low (h : KAt w p g T i kn) : KLo w p g T T.length kn := ⟨h.blk, h.row, rfl, by have := h.lt; omega, h.good.pow30 (by have := h.few; omega), h.small⟩
theorem KLo.count (h : KLo w p g T n kn) (kn' : Nat) : KLo (w.setCell ⟨p, 1, none⟩ (.int .i64 (kn' : Int))) p g T n kn' where
  blk := h.blk.set_ 1 _
  row := h.row.but ((But.refl (fun k => k = p) w).setCell (p := ⟨p, 1, none⟩) rfl _) (fun e => h.blk.ne_ h.row (by decide) e.symm)
  len := h.len
  few := h.few
  pow := h.pow
  small := h.small
set_option maxRecDepth 100000 in
set_option maxHeartbeats 1000000 in
theorem kdel_none (h : KAt w p g T i (cnt T)) (s : ByteArray) (hs : s.size ≤ 200) (hi : i + 1 ≤ 400) (ha : ask T s = none) :
    Calls Try.prog 37 #[.pointer (some ⟨p, 0, none⟩), .string s] w fun x w' => x = .returned (.bool false) ∧ KAt w' p g (del T s) (i + 1) (cnt (del T s)) ∧ But (fun k => k = p ∨ k = g) w w' := by
  obtain ⟨l1, l2⟩ := h.lt
  have hfl := find_lt (show 0 < T.length by omega) s
  have HF := Lib.hid (kfind_any h s hs)
  have c0 := h.blk.cell 0
  have hcells := Blk.cells h.row hfl
  obtain ⟨a0, -, -, -, -, -, -, -⟩ := hcells
  have hl : look T (find T s) = none := ha
  rw [hl] at a0
  have HE := Lib.hid (show KAt w p g (del T s) (i + 1) (cnt (del T s)) by rw [del_none ha]; exact ⟨h.blk, h.row, h.good.more, h.small, hi⟩)
  obtain ⟨n1, hn1⟩ : ∃ n, n = T.length := ⟨_, rfl⟩
  obtain ⟨m1, hm1⟩ : ∃ m, m = find T s := ⟨_, rfl⟩
  rw [← hm1] at HF a0 hfl
  rw [← hn1] at c0 l1 l2 hfl
  have e0 : w.cell? ⟨g, m1 * 8, none⟩ = some (.bool false) := a0
  have e1 : w.cell? ⟨p, 0, none⟩ = some (.slice (some ⟨g, 0, none⟩) n1 n1) := c0
  clear a0 c0 hl h ha hm1 hn1
  go_enter Try.func37, Try.ntmps37
  go_wp2_with fail
  refine HF.out.mono ?_
  rintro x w' ⟨rfl, rfl⟩
  go_wp2_with fail
  go_ret
  exact ⟨rfl, HE.out, But.refl _ _⟩
set_option maxRecDepth 100000 in
set_option maxHeartbeats 1000000 in
theorem kdel_some (h : KAt w p g T i (cnt T)) (s : ByteArray) (e : Ent) (hs : s.size ≤ 200) (hi : i + 1 ≤ 400) (ha : ask T s = some e) :
    Calls Try.prog 37 #[.pointer (some ⟨p, 0, none⟩), .string s] w fun x w' => x = .returned (.bool true) ∧ KAt w' p g (del T s) (i + 1) (cnt (del T s)) ∧ But (fun k => k = p ∨ k = g) w w' := by
  obtain ⟨l1, l2⟩ := h.lt
  have hfl := find_lt (show 0 < T.length by omega) s
  have HF := Lib.hid (kfind_any h s hs)
  have c0 := h.blk.cell 0
  have hcells := Blk.cells h.row hfl
  obtain ⟨a0, -, -, -, -, -, -, -⟩ := hcells
  have hl : look T (find T s) = some e := ha
  rw [hl] at a0
  obtain ⟨Q, hG⟩ := Gap.start h.good.wf h.good.free hl
  have hgood := h.good.del s
  have hcnt := cnt_del h.good s
  rw [ha] at hcnt
  simp at hcnt
  have hc1 : cnt T ≤ 400 := by have := h.good.few; omega
  rw [del_some ha] at hgood hcnt ⊢
  unfold gone at hgood hcnt ⊢
  have HK := Lib.hid h.low
  obtain ⟨n1, hn1⟩ : ∃ n, n = T.length := ⟨_, rfl⟩
  obtain ⟨m1, hm1⟩ : ∃ m, m = find T s := ⟨_, rfl⟩
  rw [← hm1] at HF a0 hfl hG hgood hcnt ⊢
  rw [← hn1] at c0 l1 l2 hfl hgood hcnt HK ⊢
  obtain ⟨c, hc⟩ : ∃ c, c = cnt (close n1 m1 n1 (T.set m1 none) 0 1) := ⟨_, rfl⟩
  rw [← hc] at hcnt ⊢
  rw [← hcnt] at HK hc1
  have e0 : w.cell? ⟨g, m1 * 8, none⟩ = some (.bool true) := a0
  have e1 : w.cell? ⟨p, 0, none⟩ = some (.slice (some ⟨g, 0, none⟩) n1 n1) := c0
  have HG := Lib.hid hG
  have HGD := Lib.hid hgood
  have HN := Lib.hid hn1
  -- the place is free; the count
  have HK1 := Lib.hid (HK.out.set_ hfl none (fun f hf => by cases hf))
  have HK2 := Lib.hid (HK1.out.count c)
  have HTH := Lib.hid (row_there HK.out.row (i := m1) (by rw [← hn1]; exact hfl))
  have HB1 := Lib.hid ((but_setCells g (pcells none) (m1 * 8) w).mono (T := fun k => k = p ∨ k = g) (fun j hj h => .inr h))
  have k1 : (w.setCells g (m1 * 8) (pcells none)).cell? ⟨p, 0, none⟩ = some (.slice (some ⟨g, 0, none⟩) n1 n1) := HK1.out.blk.cell 0
  have k2 : (w.setCells g (m1 * 8) (pcells none)).cell? ⟨p, 1, none⟩ = some (.int .i64 ((c + 1 : Nat) : Int)) := HK1.out.blk.cell 1
  have k3 : (w.setCells g (m1 * 8) (pcells none)).frozen? ⟨p, 1, none⟩ = false := HK1.out.blk.frozen 1
  have HCL := Lib.hid (kclose_any HK2.out hfl HG.out)
  have HB2 := Lib.hid (HB1.out.trans' ((But.refl (fun k => k = p ∨ k = g) (w.setCells g (m1 * 8) (pcells none))).setCell (p := ⟨p, 1, none⟩) (.inl rfl) (.int .i64 (c : Int))))
  clear a0 c0 hl h ha hm1 hn1 hG hgood hc hcnt
  go_enter Try.func37, Try.ntmps37
  go_wp2_with fail
  refine HF.out.mono ?_
  rintro x w' ⟨rfl, rfl⟩
  go_wp2_with (refine wpList_store_mid rfl 96 _ _ rfl g (m1 * 8) (pcells none).toArray rfl rfl (by simp only [List.size_toArray, pcells_length]; exact HTH.out) (by simp only [List.size_toArray, pcells_length]; exact place_size) (all_oneCell_toArray (pcells_one none)) ?_; change wpList _ _ _ _ _ (w.setCells g (m1 * 8) (pcells none)); clear e0 e1; generalize w.setCells g (m1 * 8) (pcells none) = W1 at HK1 HK2 HB1 HB2 HCL k1 k2 k3 ⊢)
  change Calls _ _ _ (W1.setCell ⟨p, 1, none⟩ (.int .i64 (c : Int))) _
  refine HCL.out.mono ?_
  rintro x w' ⟨rfl, hK, hB⟩
  have HK9 := Lib.hid hK
  have HB9 := Lib.hid (HB2.out.trans hB (fun j hj h => .inr h))
  clear hK hB
  go_wp2_with fail
  go_ret
  refine ⟨rfl, ⟨?_, HK9.out.row, HGD.out, HK9.out.small, hi⟩, HB9.out⟩
  have := HK9.out.blk
  rwa [← HK9.out.len] at this
theorem kdel_any (h : KAt w p g T i (cnt T)) (s : ByteArray) (hs : s.size ≤ 200) (hi : i + 1 ≤ 400) :
    Calls Try.prog 37 #[.pointer (some ⟨p, 0, none⟩), .string s] w fun x w' => x = .returned (.bool (ask T s).isSome) ∧ KAt w' p g (del T s) (i + 1) (cnt (del T s)) ∧ But (fun k => k = p ∨ k = g) w w' := by
  cases ha : ask T s with
  | some f => exact kdel_some h s f hs hi ha
  | none => exact kdel_none h s hs hi ha
end
end Go.Proofs.Ytgjofinbdigmcaa.Key

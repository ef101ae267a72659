/- The document's table: a key taken out. -/
import Derived.Test.YtabclecfamkanaaDoorKeyRefLay
namespace Go.Proofs.YtabclecfamkanaaDoor.Key
open Go.Proofs.YtabclecfamkanaaDoor.Mem Go.Proofs.YtabclecfamkanaaDoor.Fnv
open Go.ChangeShapes Go.WideShapes Go.ChangeAt Go.RowKit
set_option linter.unusedVariables false
set_option linter.unusedSimpArgs false
section
variable {w w' : World} {rp gl gu n i : Nat} {T : Tab} {X : List Ent}
theorem RLo.unset (h : RLo w rp gl gu T X n) {m : Nat} (hm : m < n) : RLo (w.setCell ⟨gu, m, none⟩ (.bool false)) rp gl gu (T.set m none) X n := by
  have b2 : But (fun k => k = gu) w (w.setCell ⟨gu, m, none⟩ (.bool false)) := (But.refl (fun k => k = gu) _).setCell (p := ⟨gu, m, none⟩) rfl (.bool false)
  have n2 : rp ≠ gu := h.blk.ne_ h.urow (by decide)
  have n3 : gl ≠ gu := h.lrow.ne_ h.urow (by decide)
  refine ⟨h.blk.but b2 n2, h.lrow.but b2 n3, ?_, by rw [List.length_set]; exact h.len, h.xlen, ?_, h.few, h.pow, ?_⟩
  · have := h.urow.set_ m (.bool false)
    rw [List.map_set, show ubit none = .bool false from rfl]
    simpa using this
  · intro j f hf
    by_cases hj : m = j
    · subst hj
      rw [look_set_same (by rw [h.len]; exact hm)] at hf
      cases hf
    · rw [look_set_ne hj] at hf
      exact h.same j f hf
  · intro f hf
    rcases List.mem_or_eq_of_mem_set hf with h1 | h1
    · exact h.small f h1
    · cases h1
/- The loop's state. -/
def RClosing (R : Tab) (w : World) (rp gl gu n a Q : Nat) (y : Nat) (wr : World) : Prop :=
  ∃ (T' : Tab) (X' : List Ent) (gg c f : Nat), y = pl n a c ∧ Gap T' a gg c Q ∧ Q - c < f ∧ close n a f T' gg c = R ∧ RLo wr rp gl gu T' X' n ∧ But (fun k => k = gl ∨ k = gu) w wr
set_option maxRecDepth 100000 in
set_option maxHeartbeats 1000000 in
theorem rdel_none (h : RLo w rp gl gu T X n) (hg : Good T i) (s : ByteArray) (hs : s.size ≤ 100) (ha : ask T s = none) :
    Calls Tryd.prog 9 #[.pointer (some ⟨rp, 0, none⟩), .string s] w fun x w' => x = .returned (.bool false) ∧ ∃ X', RLo w' rp gl gu (del T s) X' n ∧ But (fun k => k = gl ∨ k = gu) w w' := by
  obtain ⟨l1, l2⟩ := h.few
  have hfl := find_lt (show 0 < T.length by rw [h.len]; omega) s
  rw [h.len] at hfl
  have HF := Lib.hid (rfind_any h hg.free s hs)
  have e1 : w.cell? ⟨rp, 1, none⟩ = some (.slice (some ⟨gu, 0, none⟩) n n) := h.blk.cell 1
  have e0 := h.used hfl
  have hl : look T (find T s) = none := ha
  rw [hl] at e0
  have HE := Lib.hid (show RLo w rp gl gu (del T s) X n by rw [del_none ha]; exact h)
  obtain ⟨m, hm⟩ : ∃ m, m = find T s := ⟨_, rfl⟩
  rw [← hm] at HF e0 hfl
  have e2 : w.cell? ⟨gu, m, none⟩ = some (.bool false) := e0
  clear e0 hl h ha hm
  go_enter Tryd.func9, Tryd.ntmps9
  go_wp2_with fail
  refine HF.out.mono ?_
  rintro x w' ⟨rfl, rfl⟩
  go_wp2_with fail
  go_ret
  exact ⟨rfl, X, HE.out, But.refl _ _⟩
set_option maxRecDepth 100000 in
set_option maxHeartbeats 4000000 in
theorem rdel_some (h : RLo w rp gl gu T X n) (hg : Good T i) (s : ByteArray) (e : Ent) (hs : s.size ≤ 100) (ha : ask T s = some e) :
    Calls Tryd.prog 9 #[.pointer (some ⟨rp, 0, none⟩), .string s] w fun x w' => x = .returned (.bool true) ∧ ∃ X', RLo w' rp gl gu (del T s) X' n ∧ But (fun k => k = gl ∨ k = gu) w w' := by
  obtain ⟨l1, l2⟩ := h.few
  have hfl := find_lt (show 0 < T.length by rw [h.len]; omega) s
  rw [h.len] at hfl
  have HF := Lib.hid (rfind_any h hg.free s hs)
  have e1 : w.cell? ⟨rp, 1, none⟩ = some (.slice (some ⟨gu, 0, none⟩) n n) := h.blk.cell 1
  have e0 := h.used hfl
  have hl : look T (find T s) = some e := ha
  rw [hl] at e0
  obtain ⟨Q, hG⟩ := Gap.start hg.wf hg.free hl
  rw [del_some ha]
  unfold gone
  rw [h.len]
  obtain ⟨a, hm⟩ : ∃ m, m = find T s := ⟨_, rfl⟩
  rw [← hm] at HF e0 hfl hG ⊢
  have hq : Q < n := by have := hG.qn; rw [List.length_set, h.len] at this; exact this
  obtain ⟨R, hR⟩ : ∃ R, R = close n a n (T.set a none) 0 1 := ⟨_, rfl⟩
  rw [← hR]
  have e2 : w.cell? ⟨gu, a, none⟩ = some (.bool true) := e0
  have e3 : w.frozen? ⟨gu, a, none⟩ = false := h.urow.frozen a
  have HS := Lib.hid (show RClosing R w rp gl gu n a Q (pl n a 1) (w.setCell ⟨gu, a, none⟩ (.bool false)) from ⟨T.set a none, X, 0, 1, n, rfl, hG, by omega, hR.symm, h.unset hfl, (But.refl (fun k => k = gl ∨ k = gu) w).setCell (p := ⟨gu, a, none⟩) (.inr rfl) (.bool false)⟩)
  have e4 : (w.setCell ⟨gu, a, none⟩ (.bool false)).cell? ⟨rp, 0, none⟩ = some (.slice (some ⟨gl, 0, none⟩) n n) := (h.unset hfl).blk.cell 0
  have htm : ((a : Int) + 1).tmod (n : Int) = ((pl n a 1 : Nat) : Int) := by
    rw [Int.tmod_eq_emod_of_nonneg (by omega)]; exact (Int.natCast_emod (a + 1) n).symm
  have hz : ((n : Int) == 0) = false := beq_eq_false_iff_ne.2 (by omega)
  obtain ⟨y0, hy0⟩ : ∃ y0, y0 = pl n a 1 := ⟨_, rfl⟩
  rw [← hy0] at htm HS
  clear e0 hl h ha hm hG hR hy0 hg
  go_enter Tryd.func9, Tryd.ntmps9
  go_wp2_with fail
  refine HF.out.mono ?_
  rintro x w' ⟨rfl, rfl⟩
  go_wp2_with fail
  change Code.wp _ _ _ _ (w.setCell ⟨gu, a, none⟩ (.bool false))
  clear e1 e2 e3 e4 htm HF
  generalize hW1 : w.setCell ⟨gu, a, none⟩ (.bool false) = W1 at HS ⊢
  clear hW1
  go_loopw [7] (fun y wr => ∃ Y : Nat, y = .int .i64 (Y : Int) ∧ RClosing R w rp gl gu n a Q Y wr) (fun y _ => Q - (((intOf y).toNat + n - a) % n))
  case atStart => exact ⟨y0, rfl, HS.out⟩
  case round =>
    obtain ⟨Y, rfl, T', X', gg, c, f, hY, hG, hf, hcl, hK, hB⟩ := hrel
    have hcq := hG.cq
    have hgc := hG.gc
    have hYn : Y < n := by rw [hY]; exact pl_lt (by omega)
    have c1 : wr.cell? ⟨rp, 1, none⟩ = some (.slice (some ⟨gu, 0, none⟩) n n) := hK.blk.cell 1
    have u0 := hK.used hYn
    have hoff : (Y + n - a) % n = c := by rw [hY]; exact off_pl hfl (by omega)
    have HK := Lib.hid hK
    have HB := Lib.hid hB
    have HG := Lib.hid hG
    have HC := Lib.hid hcl
    have HY := Lib.hid hY
    have HOFF := Lib.hid hoff
    have HFU := Lib.hid hf
    have HQ := Lib.hid (And.intro hq (And.intro hcq hgc))
    clear hK hB hG hcl hY hoff hf HS hgc hq hcq
    cases he : look T' Y with
    | none =>
      rw [he] at u0
      have u1 : wr.cell? ⟨gu, Y, none⟩ = some (.bool false) := u0
      have HR := Lib.hid (show T' = R by rw [← HC.out]; exact (close_none (by rw [← HY.out]; exact he)).symm)
      clear u0 he
      go_wp2_with fail
      go_ret
      exact ⟨rfl, X', by rw [← HR.out]; exact HK.out, HB.out⟩
    | some e' =>
      rw [he] at u0
      have u1 : wr.cell? ⟨gu, Y, none⟩ = some (.bool true) := u0
      have u2 : wr.frozen? ⟨gu, Y, none⟩ = false := HK.out.urow.frozen Y
      have hsm := HK.out.small e' (look_mem.2 ⟨Y, he⟩)
      have HE := Lib.hid he
      have hcc : c < Q := by
        have h1 := HG.out.hq
        rw [HK.out.len] at h1
        have h2 := HQ.out
        rcases Nat.lt_or_ge c Q with h3 | h3
        · exact h3
        · exfalso
          rw [show Q = c by omega, ← HY.out, he] at h1
          cases h1
      have HCC := Lib.hid hcc
      have hK1 := HK.out.unset hYn
      have HK1 := Lib.hid hK1
      have d1 : (wr.setCell ⟨gu, Y, none⟩ (.bool false)).cell? ⟨rp, 0, none⟩ = some (.slice (some ⟨gl, 0, none⟩) n n) := hK1.blk.cell 0
      have HB1 := Lib.hid (HB.out.trans' ((But.refl (fun k => k = gl ∨ k = gu) wr).setCell (p := ⟨gu, Y, none⟩) (.inr rfl) (.bool false)))
      have hxe := HK.out.same Y e' he
      have HRG := Lib.hid (hK1.range hxe)
      have HFR := Lib.hid (show free (T'.set Y none) from ⟨Y, by rw [List.length_set, HK.out.len]; exact hYn, look_set_same (by rw [HK.out.len]; exact hYn)⟩)
      have HNX := Lib.hid (show (Y + 1) % n = pl n a (c + 1) by rw [HY.out]; exact pl_next n a c)
      -- what is laid anew is what the gap's closing comes to
      have HST := Lib.hid (show ∀ X2 W2, RLo W2 rp gl gu (lay (T'.set Y none) e') X2 n → But (fun k => k = gl ∨ k = gu) w W2 → RClosing R w rp gl gu n a Q ((Y + 1) % n) W2 from by
        intro X2 W2 h1 h2
        have he2 : look T' (pl T'.length a c) = some e' := by rw [HK.out.len, ← HY.out]; exact HE.out
        have hfs : ∃ f', f = f' + 1 := ⟨f - 1, by have := HFU.out; omega⟩
        obtain ⟨f', rfl⟩ := hfs
        have hfu := HFU.out
        have hcc := HCC.out
        have hYp : Y = pl T'.length a c := by rw [HK.out.len]; exact HY.out
        rw [hYp] at h1
        by_cases hb : c - gg ≤ back T'.length e' (pl T'.length a c)
        · rw [HG.out.move_lay he2 hb] at h1
          have hm := HG.out.move he2 hb
          refine ⟨_, X2, c, c + 1, f', HNX.out, hm, by omega, ?_, h1, h2⟩
          rw [HK.out.len] at he2 hb ⊢
          rw [← HC.out, close_move he2 hb]
        · rw [HG.out.stay_lay he2 hb] at h1
          refine ⟨T', X2, gg, c + 1, f', HNX.out, HG.out.stay he2 hb, by omega, ?_, h1, h2⟩
          rw [HK.out.len] at he2 hb
          rw [← HC.out, close_stay he2 hb])
      have htm : ((Y : Int) + 1).tmod (n : Int) = (((Y + 1) % n : Nat) : Int) := by
        rw [Int.tmod_eq_emod_of_nonneg (by omega)]; exact (Int.natCast_emod (Y + 1) n).symm
      have HOFF2 := Lib.hid (show ((Y + 1) % n + n - a) % n = c + 1 by rw [HNX.out]; exact off_pl hfl (by have := HQ.out; have := HCC.out; omega))
      obtain ⟨Y', hY'⟩ : ∃ Y', Y' = (Y + 1) % n := ⟨_, rfl⟩
      rw [← hY'] at htm HST HOFF2
      clear u0 he hcc hK1 hxe hY' HC HG HE HNX HFU HY
      have hx := Blk.new (wr.setCell ⟨gu, Y, none⟩ (.bool false)) 38 (ecells zero).toArray
      rw [World.setCell_size] at hx
      have HX := Lib.hid hx
      have HX0 := Lib.hid (blk_set0 (vs := ecells e') hx (by rw [ecells_length, ecells_length]))
      have hbb : But (fun k => k = wr.heap.size) (wr.setCell ⟨gu, Y, none⟩ (.bool false)) (((wr.setCell ⟨gu, Y, none⟩ (.bool false)).alloc (.cells (ecells zero).toArray 38)).setCells wr.heap.size 0 (ecells e')) := ((But.refl (fun k => k = wr.heap.size) _).alloc _).trans' (but_setCells _ _ _ _)
      have HK2 := Lib.hid (HK1.out.but hbb (fun e => by have := HK.out.blk.lt; omega) (fun e => by have := HK.out.lrow.lt; omega) (fun e => by have := HK.out.urow.lt; omega))
      have HB2 := Lib.hid (HB1.out.trans hbb (fun j hj e => by have := HB.out.size; omega))
      have HRX := Lib.hid (ent_range HX0.out)
      clear hx hbb HK1 HB1
      go_wp2_with (first
        | (refine wpList_load_mid rfl 38 _ rfl gl (Y * 7) rfl (ecells e') _ HRG.out Tryd.underlying38 rfl (by rw [ecells_length]; exact rentry_size) ?_)
        | (refine wpList_store_mid rfl 38 _ _ rfl wr.heap.size 0 (ecells e').toArray rfl rfl (blk_there0 HX.out (by rw [ecells_length]; simp [ecells_length])) (by simp only [List.size_toArray, ecells_length]; exact rentry_size) (all_oneCell_toArray (ecells_one e')) ?_
           change wpList _ _ _ _ _ (((wr.setCell ⟨gu, Y, none⟩ (.bool false)).alloc (.cells (ecells zero).toArray 38)).setCells wr.heap.size 0 (ecells e'))
           obtain ⟨x1, hx1⟩ : ∃ x, x = wr.heap.size := ⟨_, rfl⟩
           rw [← hx1] at HRX HK2 HB2 HX0 ⊢
           clear hx1
           generalize ((wr.setCell ⟨gu, Y, none⟩ (.bool false)).alloc (.cells (ecells zero).toArray 38)).setCells x1 0 (ecells e') = W2 at HRX HK2 HB2 HX0 ⊢
           clear c1 u1 u2 d1)
        | (refine wpList_load_mid rfl 38 _ rfl x1 0 rfl (ecells e') _ HRX.out Tryd.underlying38 rfl (by rw [ecells_length]; exact rentry_size) ?_))
      have HLY := Lib.hid (rlay_any HK2.out HFR.out e' hsm)
      refine HLY.out.mono ?_
      rintro e3 W3 ⟨rfl, hK3, hB3⟩
      have HS3 := Lib.hid (HST.out _ _ hK3 (HB2.out.trans' hB3))
      clear hK3 hB3 HLY
      go_wp2_with fail
      go_roundw
      case rel => exact ⟨Y', rfl, HS3.out⟩
      case measure => simp only [intOf, Int.toNat_natCast]; rw [HOFF.out, HOFF2.out]; have := HCC.out; omega
theorem rdel_any (h : RLo w rp gl gu T X n) (hg : Good T i) (s : ByteArray) (hs : s.size ≤ 100) :
    Calls Tryd.prog 9 #[.pointer (some ⟨rp, 0, none⟩), .string s] w fun x w' => x = .returned (.bool (ask T s).isSome) ∧ ∃ X', RLo w' rp gl gu (del T s) X' n ∧ But (fun k => k = gl ∨ k = gu) w w' := by
  cases ha : ask T s with
  | none => exact rdel_none h hg s hs ha
  | some e => exact rdel_some h hg s e hs ha
end
end Go.Proofs.YtabclecfamkanaaDoor.Key

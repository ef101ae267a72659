/- Contract of the program's grow: the table is laid anew in twice as many places. -/
import Derived.Test.YtabclecfamkanaaDoorKeyMem
namespace Go.Proofs.YtabclecfamkanaaDoor.Key
open Go.Proofs.YtabclecfamkanaaDoor.Mem Go.Proofs.YtabclecfamkanaaDoor.Fnv
open Go.ChangeShapes Go.WideShapes Go.ChangeAt Go.RowKit
set_option linter.unusedVariables false
set_option linter.unusedSimpArgs false
theorem World.setCell_size (w : World) (a : Addr) (v : Value) : (w.setCell a v).heap.size = w.heap.size := by simp [World.setCell]
theorem Good.part {T : Tab} {i k : Nat} (h : Good T i) (ht : tight T) (hk : k ≤ T.length) : Good (part T (2 * T.length) k) i := by
  have h8 := h.eight
  obtain ⟨k1, k2, k3, k4⟩ := part_all h.wf (m := 2 * T.length) (by have := h.load; omega) k hk
  have hc := cnt_take_le T k
  obtain ⟨j, h1, h2⟩ := h.pow
  have hf := h.few
  have hl := h.load
  unfold tight at ht
  exact ⟨k1, ⟨j + 1, by omega, by rw [k2, h2, Nat.pow_succ]; omega⟩, by omega, by omega, by omega⟩
theorem part_mem {T : Tab} {i k : Nat} (h : Good T i) (hk : k ≤ T.length) {e : Ent} (he : some e ∈ part T (2 * T.length) k) : some e ∈ T := by
  obtain ⟨k1, k2, k3, k4⟩ := part_all h.wf (m := 2 * T.length) (by have := h.load; have := h.eight; omega) k hk
  obtain ⟨j, _, hj⟩ := (k3 e).1 he
  exact look_mem.2 ⟨j, hj⟩
theorem part_len {T : Tab} {i k : Nat} (h : Good T i) (hk : k ≤ T.length) : (part T (2 * T.length) k).length = 2 * T.length := (part_all h.wf (m := 2 * T.length) (by have := h.load; have := h.eight; omega) k hk).2.1
section
variable {w : World} {p g i kn : Nat} {T : Tab}
theorem KAt.step {w : World} {p g i kn : Nat} {T : Tab} (h : KAt w p g T i kn) {j : Nat} (hj : j < T.length) (o : Option Ent) (hg : Good (T.set j o) i) (hs : ∀ e, o = some e → e.key.size ≤ 100) :
    KAt (w.setCells g (j * 8) (pcells o)) p g (T.set j o) i kn where
  blk := by
    rw [List.length_set]
    exact h.blk.but (but_setCells g _ _ w) (fun e => h.blk.ne_ h.row (by decide) e)
  row := row_put h.row hj o
  good := hg
  small := fun e he => by
    rcases List.mem_or_eq_of_mem_set he with h1 | h1
    · exact h.small e h1
    · exact hs e h1.symm
  few := h.few
set_option maxRecDepth 100000 in
set_option maxHeartbeats 2000000 in
theorem kgrow_any (h : KAt w p g T i kn) (ht : tight T) :
    Calls Tryd.prog 25 #[.pointer (some ⟨p, 0, none⟩)] w fun e w' => e = .returned (.tuple #[]) ∧ ∃ g', KAt w' p g' (again T (2 * T.length)) i kn ∧ w.heap.size ≤ g' ∧ But (fun k => k = p) w w' := by
  obtain ⟨l1, l2⟩ := h.lt
  have hpg : p ≠ g := h.blk.ne_ h.row (by decide)
  have c0 : w.cell? ⟨p, 0, none⟩ = some (.slice (some ⟨g, 0, none⟩) T.length T.length) := h.blk.cell 0
  -- the new row is there
  have hw1 : ∀ m, m = 2 * T.length → KAt ((w.setCell ⟨p, 0, none⟩ (.slice (some ⟨w.heap.size, 0, none⟩) m m)).alloc (.cells (rowT (List.replicate m none)).toArray 59)) p w.heap.size (part T m 0) i kn ∧ But (fun k => k = p) w ((w.setCell ⟨p, 0, none⟩ (.slice (some ⟨w.heap.size, 0, none⟩) m m)).alloc (.cells (rowT (List.replicate m none)).toArray 59)) := by
    rintro m rfl
    have hlt := h.blk.lt
    have hg := h.good.part ht (Nat.zero_le _)
    have hb := (But.refl (fun k => k = p) w).setCell (p := ⟨p, 0, none⟩) rfl (.slice (some ⟨w.heap.size, 0, none⟩) (2 * T.length) (2 * T.length))
    have h1 := (h.blk.set_ 0 (.slice (some ⟨w.heap.size, 0, none⟩) (2 * T.length) (2 * T.length))).but ((But.refl (fun _ => False) _).alloc (.cells (rowT (List.replicate (2 * T.length) none)).toArray 59)) (fun h => h)
    refine ⟨⟨?_, ?_, hg, fun e he => h.small e (part_mem h.good (Nat.zero_le _) he), h.few⟩, hb.alloc _⟩
    · rw [part_len h.good (Nat.zero_le _)]
      exact h1
    · rw [part_zero]
      have h2 := Blk.new (w.setCell ⟨p, 0, none⟩ (.slice (some ⟨w.heap.size, 0, none⟩) (2 * T.length) (2 * T.length))) 59 (rowT (List.replicate (2 * T.length) none)).toArray
      rw [World.setCell_size] at h2
      exact h2
  have HK := Lib.hid h
  have HT := Lib.hid ht
  have HW1 := Lib.hid (hw1 _ rfl)
  have f0 : w.frozen? ⟨p, 0, none⟩ = false := h.blk.frozen 0
  have hplt := h.blk.lt
  clear hw1 h ht
  obtain ⟨n, hn⟩ : ∃ n, n = T.length := ⟨_, rfl⟩
  have HN := Lib.hid hn
  rw [← hn] at c0 l1 l2 HW1
  rw [← hn]
  clear hn
  go_enter Tryd.func25, Tryd.ntmps25
  go_wp2_with (at_make; refine wpList_make_flat rfl _ _ 55 rfl 59 _ 8 72 Tryd.underlying55 place_info pcells none (by omega) pcells_length rfl _ _ (2 * n) rfl rfl (by omega) (by omega) (by omega) (by omega) ?_)
  change Code.wp _ _ _ _ ((w.setCell ⟨p, 0, none⟩ (.slice (some ⟨w.heap.size, 0, none⟩) (2 * n) (2 * n))).alloc (.cells (rowT (List.replicate (2 * n) none)).toArray 59))
  obtain ⟨g', hg'⟩ : ∃ g', g' = w.heap.size := ⟨_, rfl⟩
  rw [← hg'] at HW1 ⊢
  generalize (w.setCell ⟨p, 0, none⟩ (.slice (some ⟨g', 0, none⟩) (2 * n) (2 * n))).alloc (.cells (rowT (List.replicate (2 * n) none)).toArray 59) = W1 at HW1 ⊢
  have HG := Lib.hid hg'
  clear hg' c0 f0
  go_loopw [18] (fun x wr => ∃ k : Nat, k ≤ n ∧ x = .int .i64 (k : Int) ∧ KAt wr p g' (part T (2 * n) k) i kn ∧ But (fun k => k = p) w wr) (fun x _ => n - (intOf x).toNat)
  case atStart => exact ⟨0, by omega, rfl, HW1.out.1, HW1.out.2⟩
  case round =>
    obtain ⟨k, hk, rfl, hA, hB⟩ := hrel
    have hnn := HN.out
    have HA := Lib.hid hA
    have HB := Lib.hid hB
    by_cases hlt : k < n
    · have hkl : k < T.length := by omega
      have hpart := part_succ (T := T) (m := 2 * n) hkl
      have hgood := HK.out.good.part HT.out (k := k + 1) (by omega)
      have hplen := part_len HK.out.good (k := k) (by omega)
      have hsm := fun e (he : look T k = some e) => HK.out.small e (look_mem.2 ⟨k, he⟩)
      have hR := row_range (HK.out.row.but HB.out (fun e => HK.out.blk.ne_ HK.out.row (by decide) e.symm)) hkl
      rw [← hnn] at hgood hplen
      rw [hpart] at hgood
      have HSM := Lib.hid hsm
      have HPA := Lib.hid hpart
      have HGD := Lib.hid hgood
      have HPL := Lib.hid hplen
      have i0 : (0 : Int) ≤ (k : Int) := Int.natCast_nonneg _
      obtain ⟨q, hq⟩ : ∃ q, q = look T k := ⟨_, rfl⟩
      rw [← hq] at HPA HGD HSM hR
      have HQ := Lib.hid hq
      have HR := Lib.hid hR
      have HX := Lib.hid (show Blk (wr.alloc (.cells (pcells none).toArray 59)) wr.heap.size 59 (pcells none).toArray from Blk.new _ _ _)
      have HX0 := Lib.hid (blk_set0 (vs := pcells q) HX.out (by rw [pcells_length, pcells_length]))
      have hbb : But (fun k => k = wr.heap.size) wr ((wr.alloc (.cells (pcells none).toArray 59)).setCells wr.heap.size 0 (pcells q)) := ((But.refl (fun k => k = wr.heap.size) wr).alloc _).trans' (but_setCells _ _ _ _)
      have HA1 := Lib.hid (HA.out.but hbb (fun e => by have := HA.out.blk.lt; omega) (fun e => by have := HA.out.row.lt; omega))
      have HB1 := Lib.hid (HB.out.trans hbb (fun j hj e => by have := HB.out.size; omega))
      have HY0 := Lib.hid (show ((wr.alloc (.cells (pcells none).toArray 59)).setCells wr.heap.size 0 (pcells q)).cell? ⟨wr.heap.size, 0, none⟩ = some (.bool q.isSome) from by rw [HX0.out.cell 0, pcells_eq]; rfl)
      clear hA hB hsm hpart hgood hplen hq hnn hR hbb hkl
      cases q with
      | none =>
        go_wp2_with (first
          | (refine wpList_load_mid rfl 59 _ rfl g (k * 8) rfl (pcells none) _ HR.out Tryd.underlying59 rfl (by rw [pcells_length]; exact place_size) ?_)
          | (refine wpList_store_mid rfl 59 _ _ rfl wr.heap.size 0 (pcells none).toArray rfl rfl (blk_there0 HX.out (by rw [pcells_length]; simp [pcells_length])) (by simp only [List.size_toArray, pcells_length]; exact place_size) (all_oneCell_toArray (pcells_one none)) ?_
             change wpList _ _ _ _ _ ((wr.alloc (.cells (pcells none).toArray 59)).setCells wr.heap.size 0 (pcells none))
             generalize (wr.alloc (.cells (pcells none).toArray 59)).setCells wr.heap.size 0 (pcells none) = W2 at HX0 HA1 HB1 HY0 ⊢
             have y0 := HY0.out))
        go_roundw
        case rel => exact ⟨k + 1, by omega, by go_num, by rw [part_none (by have := HN.out; omega) HQ.out.symm]; exact HA1.out, HB1.out⟩
        case measure => simp [intOf]; omega
      | some e =>
        go_wp2_with (first
          | (refine wpList_load_mid rfl 59 _ rfl g (k * 8) rfl (pcells (some e)) _ HR.out Tryd.underlying59 rfl (by rw [pcells_length]; exact place_size) ?_)
          | (refine wpList_store_mid rfl 59 _ _ rfl wr.heap.size 0 (pcells (some e)).toArray rfl rfl (blk_there0 HX.out (by rw [pcells_length]; simp [pcells_length])) (by simp only [List.size_toArray, pcells_length]; exact place_size) (all_oneCell_toArray (pcells_one (some e))) ?_
             change wpList _ _ _ _ _ ((wr.alloc (.cells (pcells none).toArray 59)).setCells wr.heap.size 0 (pcells (some e)))
             obtain ⟨x, hx⟩ : ∃ x, x = wr.heap.size := ⟨_, rfl⟩
             rw [← hx] at HX0 HA1 HB1 HY0 ⊢
             clear hx HX
             generalize (wr.alloc (.cells (pcells none).toArray 59)).setCells x 0 (pcells (some e)) = W2 at HX0 HA1 HB1 HY0 ⊢
             have y0 := HY0.out))
        clear y0 HY0 HA HB HR
        have HD := Lib.hid ((But.refl (fun _ => False) W2).drew)
        have HA2 := Lib.hid (HA1.out.but HD.out (fun h => h) (fun h => h))
        have HX2 := Lib.hid (HX0.out.but HD.out (fun h => h))
        have HB2 := Lib.hid (HB1.out.trans HD.out (fun j hj e => e.elim))
        have HF := Lib.hid (kfind_any HA2.out e.key (HSM.out e rfl))
        have hfl := find_lt (show 0 < (part T (2 * n) k).length by rw [HPL.out]; omega) e.key
        have hgd : Good ((part T (2 * n) k).set (find (part T (2 * n) k) e.key) (some e)) i := HGD.out
        have HST := Lib.hid (KAt.step HA2.out hfl (some e) hgd (fun f hf => by injection hf with hf; subst hf; exact HSM.out e rfl))
        have HTH := Lib.hid (row_there HA2.out.row hfl)
        have hcp : W2.drew.cell? ⟨p, 0, none⟩ = some (.slice (some ⟨g', 0, none⟩) (2 * n) (2 * n)) := by have := HA2.out.blk.cell 0; rw [HPL.out] at this; exact this
        have HCP := Lib.hid hcp
        have HCX := Lib.hid (show W2.drew.cell? ⟨x, 1, none⟩ = some (.string e.key) by rw [HX2.out.cell 1]; rfl)
        rw [HPL.out] at hfl
        obtain ⟨m, hm⟩ : ∃ m, m = find (part T (2 * n) k) e.key := ⟨_, rfl⟩
        rw [← hm] at HF HST HTH hfl
        have HP2 := Lib.hid (show part T (2 * n) (k + 1) = (part T (2 * n) k).set m (some e) by rw [HPA.out, hm]; rfl)
        clear hm hgd hcp HA1 HX0 HB1
        have HNE := Lib.hid (show g' ≠ p from fun e => HA2.out.blk.ne_ HA2.out.row (by decide) e.symm)
        have hfi : (m : Int) < 2 * (n : Int) := by omega
        refine Late.region_goes (fun V => V = W2.drew) (fun i => i == 11) (by kernel_rfl) ?_ (fun hH => ?_)
        · rfl
        refine Late.Goes.takeT (i := 0) (v := ?_) (by simp only [List.getElem?_toArray, List.getElem?_cons_succ, List.getElem?_cons_zero]; rfl) (by kernel_rfl) (by kernel_rfl) (by kernel_rfl) (by kernel_rfl) (by kernel_rfl) (by exact fun _ _ _ h => h) (Or.inl ⟨by rfl, ?_⟩) hH ?_
        rotate_left
        · (intro wy hSw; (try dsimp only at hSw); subst hSw; have k0 := HCP.out; have k1 := HCX.out; go_simp; try (with_reducible rfl))
        try simp only [Act.put, List.setIfInBounds_toArray, List.set_cons_zero, List.set_cons_succ]
        refine Late.Goes.takeT (i := 1) (v := ?_) (by simp only [List.getElem?_toArray, List.getElem?_cons_succ, List.getElem?_cons_zero]; rfl) (by kernel_rfl) (by kernel_rfl) (by kernel_rfl) (by kernel_rfl) (by kernel_rfl) (by exact fun _ _ _ h => h) (Or.inl ⟨by rfl, ?_⟩) hH ?_
        rotate_left
        · (intro wy hSw; (try dsimp only at hSw); subst hSw; have k0 := HCP.out; have k1 := HCX.out; go_simp; try (with_reducible rfl))
        try simp only [Act.put, List.setIfInBounds_toArray, List.set_cons_zero, List.set_cons_succ]
        refine Late.Goes.takeT (i := 2) (v := ?_) (by simp only [List.getElem?_toArray, List.getElem?_cons_succ, List.getElem?_cons_zero]; rfl) (by kernel_rfl) (by kernel_rfl) (by kernel_rfl) (by kernel_rfl) (by kernel_rfl) (by exact fun _ _ _ h => h) (Or.inl ⟨by rfl, ?_⟩) hH ?_
        rotate_left
        · (intro wy hSw; (try dsimp only at hSw); subst hSw; have k0 := HCP.out; have k1 := HCX.out; go_simp; try (with_reducible rfl))
        try simp only [Act.put, List.setIfInBounds_toArray, List.set_cons_zero, List.set_cons_succ]
        refine Late.Goes.takeT (i := 3) (v := ?_) (by simp only [List.getElem?_toArray, List.getElem?_cons_succ, List.getElem?_cons_zero]; rfl) (by kernel_rfl) (by kernel_rfl) (by kernel_rfl) (by kernel_rfl) (by kernel_rfl) (by exact fun _ _ _ h => h) (Or.inl ⟨by rfl, ?_⟩) hH ?_
        rotate_left
        · (intro wy hSw; (try dsimp only at hSw); subst hSw; have k0 := HCP.out; have k1 := HCX.out; go_simp; try (with_reducible rfl))
        try simp only [Act.put, List.setIfInBounds_toArray, List.set_cons_zero, List.set_cons_succ]
        refine Late.Goes.takeT (i := 4) (v := ?_) (by simp only [List.getElem?_toArray, List.getElem?_cons_succ, List.getElem?_cons_zero]; rfl) (by kernel_rfl) (by kernel_rfl) (by kernel_rfl) (by kernel_rfl) (by kernel_rfl) (by exact fun _ _ _ h => h) (Or.inl ⟨by rfl, ?_⟩) hH ?_
        rotate_left
        · (intro wy hSw; (try dsimp only at hSw); subst hSw; have k0 := HCP.out; have k1 := HCX.out; go_simp; try (with_reducible rfl))
        try simp only [Act.put, List.setIfInBounds_toArray, List.set_cons_zero, List.set_cons_succ]
        refine Late.Goes.takeT (i := 5) (v := ?_) (by simp only [List.getElem?_toArray, List.getElem?_cons_succ, List.getElem?_cons_zero]; rfl) (by kernel_rfl) (by kernel_rfl) (by kernel_rfl) (by kernel_rfl) (by kernel_rfl) (by exact fun _ _ _ h => h) (Or.inl ⟨by rfl, ?_⟩) hH ?_
        rotate_left
        · (intro wy hSw; (try dsimp only at hSw); subst hSw; have k0 := HCP.out; have k1 := HCX.out; go_simp; try (with_reducible rfl))
        try simp only [Act.put, List.setIfInBounds_toArray, List.set_cons_zero, List.set_cons_succ]
        refine Late.Goes.takeT (i := 6) (v := ?_) (by simp only [List.getElem?_toArray, List.getElem?_cons_succ, List.getElem?_cons_zero]; rfl) (by kernel_rfl) (by kernel_rfl) (by kernel_rfl) (by kernel_rfl) (by kernel_rfl) (by exact fun _ _ _ h => h) (Or.inl ⟨by rfl, ?_⟩) hH ?_
        rotate_left
        · (intro wy hSw; (try dsimp only at hSw); subst hSw; have k0 := HCP.out; have k1 := HCX.out; go_simp; try (with_reducible rfl))
        try simp only [Act.put, List.setIfInBounds_toArray, List.set_cons_zero, List.set_cons_succ]
        refine Late.Goes.takeT (i := 7) (v := ?_) (by simp only [List.getElem?_toArray, List.getElem?_cons_succ, List.getElem?_cons_zero]; rfl) (by kernel_rfl) (by kernel_rfl) (by kernel_rfl) (by kernel_rfl) (by kernel_rfl) (by exact fun _ _ _ h => h) (Or.inl ⟨by rfl, ?_⟩) hH ?_
        rotate_left
        · (intro wy hSw; (try dsimp only at hSw); subst hSw; have k0 := HCP.out; have k1 := HCX.out; go_simp; try (with_reducible rfl))
        try simp only [Act.put, List.setIfInBounds_toArray, List.set_cons_zero, List.set_cons_succ]
        refine Late.Goes.takeT (i := 9) (v := _) (by simp only [List.getElem?_toArray, List.getElem?_cons_succ, List.getElem?_cons_zero]; rfl) (by kernel_rfl) (by kernel_rfl) (by kernel_rfl) (by kernel_rfl) (by kernel_rfl) (by exact fun _ _ _ h => h) (yields_place (by rfl) _ rfl x 0 rfl (some e) (fun V hV => by rw [hV]; exact box_range HX2.out)) hH ?_
        try simp only [Act.put, List.setIfInBounds_toArray, List.set_cons_zero, List.set_cons_succ]
        refine Late.Goes.one (i := 8) (by kernel_rfl) (by simp only [List.getElem?_toArray, List.getElem?_cons_succ, List.getElem?_cons_zero]; rfl) (fun K hK => ?_)
        clear hH
        go_simp
        go_at_call 21
        refine HF.out.mono ?_
        rintro e1 w1 ⟨rfl, rfl⟩
        refine hK.out _ _ ?_ (fun hH => ?_)
        · exact fun _ => rfl
        clear hK K
        have hH := hH rfl
        try simp only [Act.put, List.setIfInBounds_toArray, List.set_cons_zero, List.set_cons_succ]
        refine Late.Goes.takeT (i := 10) (v := ?_) (by simp only [List.getElem?_toArray, List.getElem?_cons_succ, List.getElem?_cons_zero]; rfl) (by kernel_rfl) (by kernel_rfl) (by kernel_rfl) (by kernel_rfl) (by kernel_rfl) (by exact fun _ _ _ h => h) (Or.inl ⟨by rfl, ?_⟩) hH ?_
        rotate_left
        · (intro wy hSw; (try dsimp only at hSw); subst hSw; have k0 := HCP.out; have k1 := HCX.out; go_simp; try (with_reducible rfl))
        try simp only [Act.put, List.setIfInBounds_toArray, List.set_cons_zero, List.set_cons_succ]
        refine Late.Goes.one (i := 11) (by kernel_rfl) (by simp only [List.getElem?_toArray, List.getElem?_cons_succ, List.getElem?_cons_zero]; rfl) (fun K hK => ?_)
        clear hH
        refine wp_store_blk (by rfl) 59 _ _ rfl g' (m * 8) (pcells (some e)) rfl rfl (by rw [pcells_length]; exact HTH.out) (by rw [pcells_length]; exact place_size) (pcells_one _) ?_
        refine hK.out _ _ ?_ (fun _ => ?_)
        · exact fun h => by cases h
        clear hK K
        try simp only [Act.put, List.setIfInBounds_toArray, List.set_cons_zero, List.set_cons_succ]
        refine Late.Goes.done (by kernel_rfl) ?_ _
        go_wp2_with fail
        go_roundw
        case rel => exact ⟨k + 1, by omega, by go_num, by rw [HP2.out]; exact HST.out, HB2.out.trans (but_setCells g' _ _ _) (fun j hj e => by have := HG.out; omega)⟩
        case measure => simp [intOf]; omega
    · have hkn : k = T.length := by omega
      have HE := Lib.hid (show KAt wr p g' (again T (2 * n)) i kn by rw [again, ← hkn]; exact hA)
      clear hA HA
      go_wp2_with fail
      go_end0
      exact ⟨rfl, g', HE.out, by have := HG.out; omega, HB.out⟩
end
end Go.Proofs.YtabclecfamkanaaDoor.Key

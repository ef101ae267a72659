/- Contract of the program's Places. -/
import Derived.Test.YtabclecfamkanaaDoorKeyItoa
namespace Go.Proofs.YtabclecfamkanaaDoor.Key
open Go.Proofs.YtabclecfamkanaaDoor.Mem Go.Proofs.YtabclecfamkanaaDoor.Fnv
open Go.ChangeShapes Go.WideShapes Go.ChangeAt Go.RowKit
set_option linter.unusedVariables false
set_option linter.unusedSimpArgs false
section
variable {w : World} {p g i kn n : Nat} {T : Tab}
theorem string_info : (Tryd.prog.info? 9).map (fun i => (i.zero, i.size, i.bytes)) = some (some (.string nothing), 1, 16) := by kernel_rfl
theorem flat_one (n : Nat) : (List.replicate n (0 : Nat)).flatMap (fun _ => [Value.string nothing]) = List.replicate n (.string nothing) := by
  induction n with
  | zero => rfl
  | succ n ih => rw [List.replicate_succ, List.flatMap_cons, ih]; rfl
set_option maxRecDepth 100000 in
set_option maxHeartbeats 2000000 in
theorem kplaces_any (h : KAt w p g T i kn) (hc : Can w) :
    Calls Tryd.prog 18 #[.pointer (some ⟨p, 0, none⟩)] w fun e w' => e = .returned (.slice (some ⟨w.heap.size, 0, none⟩) T.length T.length) ∧ Blk w' w.heap.size 9 (texts T T.length T.length).toArray ∧ But (fun _ => False) w w' := by
  obtain ⟨l1, l2⟩ := h.lt
  have c0 : w.cell? ⟨p, 0, none⟩ = some (.slice (some ⟨g, 0, none⟩) T.length T.length) := h.blk.cell 0
  have HK := Lib.hid h
  have HC := Lib.hid hc
  obtain ⟨n, hn⟩ : ∃ n, n = T.length := ⟨_, rfl⟩
  have HN := Lib.hid hn
  rw [← hn] at c0 l1 l2 ⊢
  have hb0 : Blk (w.alloc (.cells (texts T n 0).toArray 9)) w.heap.size 9 (texts T n 0).toArray := Blk.new _ _ _
  have HB0 := Lib.hid hb0
  have hba := (But.refl (fun _ => False) w).alloc (.cells (texts T n 0).toArray 9)
  have HBA := Lib.hid hba
  have k0 : (w.alloc (.cells (texts T n 0).toArray 9)).cell? ⟨p, 0, none⟩ = some (.slice (some ⟨g, 0, none⟩) n n) := by rw [← c0]; exact hba.cell h.blk.lt (fun h => h)
  clear h hc hn hb0 hba
  go_enter Tryd.func18, Tryd.ntmps18
  go_wp2_with (at_make; refine wpList_make_flat rfl _ _ 49 rfl 9 _ 1 16 Tryd.underlying49 string_info (fun _ : Nat => [.string nothing]) 0 (by omega) (fun _ => rfl) rfl _ _ n rfl rfl (by omega) (by omega) (by omega) (by omega) ?_; rw [flat_one, ← texts_zero T n]; clear c0)
  obtain ⟨b, hb⟩ : ∃ b, b = w.heap.size := ⟨_, rfl⟩
  rw [← hb] at HB0 ⊢
  have HBN := Lib.hid hb
  clear hb k0
  generalize w.alloc (.cells (texts T n 0).toArray 9) = W1 at HB0 HBA ⊢
  go_loopw [17] (fun x wr => ∃ k : Nat, k ≤ n ∧ x = .int .i64 (k : Int) ∧ Blk wr b 9 (texts T n k).toArray ∧ But (fun _ => False) w wr) (fun x _ => n - (intOf x).toNat)
  case atStart => exact ⟨0, by omega, rfl, HB0.out, HBA.out⟩
  case round =>
    obtain ⟨k, hk, rfl, hA, hB⟩ := hrel
    have hnn := HN.out
    have HA := Lib.hid hA
    have HB := Lib.hid hB
    by_cases hlt : k < n
    · have hkl : k < T.length := by omega
      have hR := row_range (HK.out.but hB (fun h => h) (fun h => h)).row hkl
      have hsm := fun e (he : look T k = some e) => HK.out.small e (look_mem.2 ⟨k, he⟩)
      have HST := Lib.hid (texts_set T n k hlt)
      have HSN := Lib.hid (fun h => texts_step T n k h)
      have hbw := hA.lt
      obtain ⟨q, hq⟩ : ∃ q, q = look T k := ⟨_, rfl⟩
      rw [← hq] at hsm hR HST HSN
      have HR := Lib.hid hR
      have HSM := Lib.hid hsm
      have HX := Lib.hid (show Blk (wr.alloc (.cells (pcells none).toArray 59)) wr.heap.size 59 (pcells none).toArray from Blk.new _ _ _)
      have HX0 := Lib.hid (blk_set0 (vs := pcells q) HX.out (by rw [pcells_length, pcells_length]))
      have hbb : But (fun k => k = wr.heap.size) wr ((wr.alloc (.cells (pcells none).toArray 59)).setCells wr.heap.size 0 (pcells q)) := ((But.refl (fun k => k = wr.heap.size) wr).alloc _).trans' (but_setCells _ _ _ _)
      have HA1 := Lib.hid (hA.but hbb (fun e => by omega))
      have HB1 := Lib.hid (hB.trans hbb (fun j hj e => by have := hB.size; omega))
      have HY0 := Lib.hid (show ((wr.alloc (.cells (pcells none).toArray 59)).setCells wr.heap.size 0 (pcells q)).cell? ⟨wr.heap.size, 0, none⟩ = some (.bool q.isSome) from by rw [HX0.out.cell 0, pcells_eq]; rfl)
      have hxb : b ≠ wr.heap.size := by omega
      clear hA hB hsm hR hbb hkl hq hnn
      cases q with
      | none =>
        go_wp2_with (first
          | (refine wpList_load_mid rfl 59 _ rfl g (k * 8) rfl (pcells none) _ HR.out Tryd.underlying59 rfl (by rw [pcells_length]; exact place_size) ?_)
          | (refine wpList_store_mid rfl 59 _ _ rfl wr.heap.size 0 (pcells none).toArray rfl rfl (blk_there0 HX.out (by rw [pcells_length]; simp [pcells_length])) (by simp only [List.size_toArray, pcells_length]; exact place_size) (all_oneCell_toArray (pcells_one none)) ?_
             change wpList _ _ _ _ _ ((wr.alloc (.cells (pcells none).toArray 59)).setCells wr.heap.size 0 (pcells none))
             generalize (wr.alloc (.cells (pcells none).toArray 59)).setCells wr.heap.size 0 (pcells none) = W2 at HX0 HA1 HB1 HY0 ⊢
             have y0 := HY0.out))
        go_roundw
        case rel => exact ⟨k + 1, by omega, by go_num, by rw [HSN.out rfl]; exact HA1.out, HB1.out⟩
        case measure => simp [intOf]; omega
      | some e =>
        go_wp2_with (first
          | (refine wpList_load_mid rfl 59 _ rfl g (k * 8) rfl (pcells (some e)) _ HR.out Tryd.underlying59 rfl (by rw [pcells_length]; exact place_size) ?_)
          | (refine wpList_store_mid rfl 59 _ _ rfl wr.heap.size 0 (pcells (some e)).toArray rfl rfl (blk_there0 HX.out (by rw [pcells_length]; simp [pcells_length])) (by simp only [List.size_toArray, pcells_length]; exact place_size) (all_oneCell_toArray (pcells_one (some e))) ?_
             change wpList _ _ _ _ _ ((wr.alloc (.cells (pcells none).toArray 59)).setCells wr.heap.size 0 (pcells (some e)))
             obtain ⟨x, hx⟩ : ∃ x, x = wr.heap.size := ⟨_, rfl⟩
             rw [← hx] at HX0 HA1 HB1 HY0 hxb ⊢
             clear hx HX
             generalize (wr.alloc (.cells (pcells none).toArray 59)).setCells x 0 (pcells (some e)) = W2 at HX0 HA1 HB1 HY0 ⊢
             have y0 := HY0.out))
        clear y0 HY0 HA HB HR
        have hs := HSM.out e rfl
        have HS0 := Lib.hid (show But (fun _ => False) W2 W2.drew ∧ Blk W2.drew b 9 (texts T n k).toArray ∧ Blk W2.drew x 59 (pcells (some e)).toArray from ⟨(But.refl _ W2).drew, HA1.out.but ((But.refl (fun _ => False) W2).drew) (fun h => h), HX0.out.but ((But.refl (fun _ => False) W2).drew) (fun h => h)⟩)
        have HCX := Lib.hid (fun V (hV : Blk V x 59 (pcells (some e)).toArray) => show V.cell? ⟨x, 1, none⟩ = some (.string e.key) by rw [hV.cell 1]; rfl)
        have HIT := Lib.hid (itoa_any (w := W2.drew) e.key.size hs (HC.out.but (HB1.out.trans HS0.out.1 (fun j hj h => h)) (fun _ _ h => h)))
        have hsz : (e.key.size : Int) ≤ 100 := by omega
        have hl1 : ¬ 9223372036854775807 < (dec e.key.size).length + 1 := by have := dec_len e.key.size; omega
        have hl2 : ¬ 9223372036854775807 < (dec e.key.size).length + 1 + e.key.size := by have := dec_len e.key.size; omega
        have hki : (k : Int) < (n : Int) := by omega
        refine Late.region_goes (fun V => But (fun _ => False) W2 V ∧ Blk V b 9 (texts T n k).toArray ∧ Blk V x 59 (pcells (some e)).toArray) (fun i => i == 13) (by kernel_rfl) ?_ (fun hH => ?_)
        · exact HS0.out
        refine Late.Goes.takeT (i := 0) (v := ?_) (by simp only [List.getElem?_toArray, List.getElem?_cons_succ, List.getElem?_cons_zero]; rfl) (by kernel_rfl) (by kernel_rfl) (by kernel_rfl) (by kernel_rfl) (by kernel_rfl) (by exact fun _ _ _ h => h) (Or.inl ⟨by rfl, ?_⟩) hH ?_
        rotate_left
        · (intro wy hSw; (try dsimp only at hSw); have k1 := HCX.out wy hSw.2.2; go_simp; try (with_reducible rfl))
        try simp only [Act.put, List.setIfInBounds_toArray, List.set_cons_zero, List.set_cons_succ]
        refine Late.Goes.takeT (i := 1) (v := ?_) (by simp only [List.getElem?_toArray, List.getElem?_cons_succ, List.getElem?_cons_zero]; rfl) (by kernel_rfl) (by kernel_rfl) (by kernel_rfl) (by kernel_rfl) (by kernel_rfl) (by exact fun _ _ _ h => h) (Or.inl ⟨by rfl, ?_⟩) hH ?_
        rotate_left
        · (intro wy hSw; (try dsimp only at hSw); have k1 := HCX.out wy hSw.2.2; go_simp; try (with_reducible rfl))
        try simp only [Act.put, List.setIfInBounds_toArray, List.set_cons_zero, List.set_cons_succ]
        refine Late.Goes.takeT (i := 2) (v := ?_) (by simp only [List.getElem?_toArray, List.getElem?_cons_succ, List.getElem?_cons_zero]; rfl) (by kernel_rfl) (by kernel_rfl) (by kernel_rfl) (by kernel_rfl) (by kernel_rfl) (by exact fun _ _ _ h => h) (Or.inl ⟨by rfl, ?_⟩) hH ?_
        rotate_left
        · (intro wy hSw; (try dsimp only at hSw); have k1 := HCX.out wy hSw.2.2; go_simp; try (with_reducible rfl))
        try simp only [Act.put, List.setIfInBounds_toArray, List.set_cons_zero, List.set_cons_succ]
        refine Late.Goes.takeT (i := 3) (v := ?_) (by simp only [List.getElem?_toArray, List.getElem?_cons_succ, List.getElem?_cons_zero]; rfl) (by kernel_rfl) (by kernel_rfl) (by kernel_rfl) (by kernel_rfl) (by kernel_rfl) (by exact fun _ _ _ h => h) (Or.inl ⟨by rfl, ?_⟩) hH ?_
        rotate_left
        · (intro wy hSw; (try dsimp only at hSw); have k1 := HCX.out wy hSw.2.2; go_simp; try (with_reducible rfl))
        try simp only [Act.put, List.setIfInBounds_toArray, List.set_cons_zero, List.set_cons_succ]
        refine Late.Goes.takeT (i := 4) (v := ?_) (by simp only [List.getElem?_toArray, List.getElem?_cons_succ, List.getElem?_cons_zero]; rfl) (by kernel_rfl) (by kernel_rfl) (by kernel_rfl) (by kernel_rfl) (by kernel_rfl) (by exact fun _ _ _ h => h) (Or.inl ⟨by rfl, ?_⟩) hH ?_
        rotate_left
        · (intro wy hSw; (try dsimp only at hSw); have k1 := HCX.out wy hSw.2.2; go_simp; try (with_reducible rfl))
        try simp only [Act.put, List.setIfInBounds_toArray, List.set_cons_zero, List.set_cons_succ]
        refine Late.Goes.takeT (i := 5) (v := ?_) (by simp only [List.getElem?_toArray, List.getElem?_cons_succ, List.getElem?_cons_zero]; rfl) (by kernel_rfl) (by kernel_rfl) (by kernel_rfl) (by kernel_rfl) (by kernel_rfl) (by exact fun _ _ _ h => h) (Or.inl ⟨by rfl, ?_⟩) hH ?_
        rotate_left
        · (intro wy hSw; (try dsimp only at hSw); have k1 := HCX.out wy hSw.2.2; go_simp; try (with_reducible rfl))
        try simp only [Act.put, List.setIfInBounds_toArray, List.set_cons_zero, List.set_cons_succ]
        refine Late.Goes.takeT (i := 8) (v := ?_) (by simp only [List.getElem?_toArray, List.getElem?_cons_succ, List.getElem?_cons_zero]; rfl) (by kernel_rfl) (by kernel_rfl) (by kernel_rfl) (by kernel_rfl) (by kernel_rfl) (by exact fun _ _ _ h => h) (Or.inl ⟨by rfl, ?_⟩) hH ?_
        rotate_left
        · (intro wy hSw; (try dsimp only at hSw); have k1 := HCX.out wy hSw.2.2; go_simp; try (with_reducible rfl))
        try simp only [Act.put, List.setIfInBounds_toArray, List.set_cons_zero, List.set_cons_succ]
        refine Late.Goes.takeT (i := 9) (v := ?_) (by simp only [List.getElem?_toArray, List.getElem?_cons_succ, List.getElem?_cons_zero]; rfl) (by kernel_rfl) (by kernel_rfl) (by kernel_rfl) (by kernel_rfl) (by kernel_rfl) (by exact fun _ _ _ h => h) (Or.inl ⟨by rfl, ?_⟩) hH ?_
        rotate_left
        · (intro wy hSw; (try dsimp only at hSw); have k1 := HCX.out wy hSw.2.2; go_simp; try (with_reducible rfl))
        try simp only [Act.put, List.setIfInBounds_toArray, List.set_cons_zero, List.set_cons_succ]
        refine Late.Goes.takeT (i := 10) (v := ?_) (by simp only [List.getElem?_toArray, List.getElem?_cons_succ, List.getElem?_cons_zero]; rfl) (by kernel_rfl) (by kernel_rfl) (by kernel_rfl) (by kernel_rfl) (by kernel_rfl) (by exact fun _ _ _ h => h) (Or.inl ⟨by rfl, ?_⟩) hH ?_
        rotate_left
        · (intro wy hSw; (try dsimp only at hSw); have k1 := HCX.out wy hSw.2.2; go_simp; try (with_reducible rfl))
        try simp only [Act.put, List.setIfInBounds_toArray, List.set_cons_zero, List.set_cons_succ]
        refine Late.Goes.one (i := 6) (by kernel_rfl) (by simp only [List.getElem?_toArray, List.getElem?_cons_succ, List.getElem?_cons_zero]; rfl) (fun K hK => ?_)
        clear hH
        go_simp
        go_at_call 27
        refine HIT.out.mono ?_
        rintro e1 W3 ⟨rfl, hb3⟩
        have HS3 := Lib.hid (show But (fun _ => False) W2 W3 ∧ Blk W3 b 9 (texts T n k).toArray ∧ Blk W3 x 59 (pcells (some e)).toArray from ⟨HS0.out.1.trans hb3 (fun j hj h => h), HS0.out.2.1.but hb3 (fun h => h), HS0.out.2.2.but hb3 (fun h => h)⟩)
        clear hb3
        refine hK.out _ _ ?_ (fun hH => ?_)
        · exact fun _ => HS3.out
        clear hK K
        have hH := hH rfl
        try simp only [Act.put, List.setIfInBounds_toArray, List.set_cons_zero, List.set_cons_succ]
        refine Late.Goes.takeT (i := 7) (v := ?_) (by simp only [List.getElem?_toArray, List.getElem?_cons_succ, List.getElem?_cons_zero]; rfl) (by kernel_rfl) (by kernel_rfl) (by kernel_rfl) (by kernel_rfl) (by kernel_rfl) (by exact fun _ _ _ h => h) (Or.inl ⟨by rfl, ?_⟩) hH ?_
        rotate_left
        · (intro wy hSw; (try dsimp only at hSw); have k1 := HCX.out wy hSw.2.2; go_simp; try (with_reducible rfl))
        try simp only [Act.put, List.setIfInBounds_toArray, List.set_cons_zero, List.set_cons_succ]
        refine Late.Goes.takeT (i := 11) (v := ?_) (by simp only [List.getElem?_toArray, List.getElem?_cons_succ, List.getElem?_cons_zero]; rfl) (by kernel_rfl) (by kernel_rfl) (by kernel_rfl) (by kernel_rfl) (by kernel_rfl) (by exact fun _ _ _ h => h) (Or.inl ⟨by rfl, ?_⟩) hH ?_
        rotate_left
        · (intro wy hSw; (try dsimp only at hSw); have k1 := HCX.out wy hSw.2.2; go_simp; try (with_reducible rfl))
        try simp only [Act.put, List.setIfInBounds_toArray, List.set_cons_zero, List.set_cons_succ]
        refine Late.Goes.takeT (i := 12) (v := ?_) (by simp only [List.getElem?_toArray, List.getElem?_cons_succ, List.getElem?_cons_zero]; rfl) (by kernel_rfl) (by kernel_rfl) (by kernel_rfl) (by kernel_rfl) (by kernel_rfl) (by exact fun _ _ _ h => h) (Or.inl ⟨by rfl, ?_⟩) hH ?_
        rotate_left
        · (intro wy hSw; (try dsimp only at hSw); have k1 := HCX.out wy hSw.2.2; go_simp; try (with_reducible rfl))
        try simp only [Act.put, List.setIfInBounds_toArray, List.set_cons_zero, List.set_cons_succ]
        refine Late.Goes.one (i := 13) (by kernel_rfl) (by simp only [List.getElem?_toArray, List.getElem?_cons_succ, List.getElem?_cons_zero]; rfl) (fun K hK => ?_)
        clear hH
        have hcb : W3.frozen? ⟨b, k, none⟩ = false := HS3.out.2.1.frozen k
        have hck : W3.cell? ⟨b, k, none⟩ = some (.string nothing) := by rw [HS3.out.2.1.cell k, List.getElem?_toArray, texts_get T n k k hlt, if_neg (by omega)]
        have HE := Lib.hid (show Blk (W3.setCell ⟨b, k, none⟩ (.string (txt (some e)))) b 9 (texts T n (k + 1)).toArray from by
          have h1 := HS3.out.2.1.set_ k (.string (txt (some e)))
          rw [← HST.out]
          simpa using h1)
        have HEB := Lib.hid ((HB1.out.trans HS3.out.1 (fun j hj h => h)).setCell_new (p := ⟨b, k, none⟩) (by show w.heap.size ≤ b; exact Nat.le_of_eq HBN.out.symm) (.string (txt (some e))))
        go_simp
        change K _ (W3.setCell ⟨b, k, none⟩ (.string (txt (some e))))
        generalize W3.setCell ⟨b, k, none⟩ (.string (txt (some e))) = W4 at HE HEB ⊢
        refine hK.out _ _ ?_ (fun _ => ?_)
        · exact fun h => by cases h
        clear hK K
        try simp only [Act.put, List.setIfInBounds_toArray, List.set_cons_zero, List.set_cons_succ]
        refine Late.Goes.done (by kernel_rfl) ?_ _
        go_wp2_with fail
        go_roundw
        case rel => exact ⟨k + 1, by omega, by go_num, HE.out, HEB.out⟩
        case measure => simp [intOf]; omega
    · have HA2 := Lib.hid (show Blk wr b 9 (texts T n n).toArray from by
        have hkn : k = n := by omega
        rw [hkn] at hA; exact hA)
      clear hA hB HA hnn
      go_wp2_with fail
      go_ret
      have hb := HBN.out
      subst hb
      exact ⟨rfl, HA2.out, HB.out⟩
end
end Go.Proofs.YtabclecfamkanaaDoor.Key

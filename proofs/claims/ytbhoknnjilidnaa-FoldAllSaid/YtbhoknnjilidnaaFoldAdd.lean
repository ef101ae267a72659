/- Contract of the document's Add. -/
import Derived.Test.YtbhoknnjilidnaaFoldRef
namespace Go.Proofs.Ytbhoknnjilidnaa.Fold
open Go.Proofs.Ytbhoknnjilidnaa.Mem
open Go.ChangeShapes Go.WideShapes Go.ChangeAt Go.RowKit
open Go.Proofs (encStr)
set_option linter.unusedVariables false
set_option linter.unusedSimpArgs false
section
variable {w : World} {a : Option Addr} {ks : List K} {c B : Nat} {v : Value}
set_option maxRecDepth 100000 in
set_option maxHeartbeats 2000000 in
theorem add_any (h : KOwn w B v ks) (hB : B ≤ w.heap.size) (hr : Ris ks) (hl : ks.length ≤ 1000) (s : K) :
    Calls Try.prog 13 #[v, .string (tx s)] w fun e w' => ∃ v', e = .returned v' ∧ KOwn w' B v' (add ks s) ∧ Below w.heap.size w w' := by
  obtain ⟨i0, hi0, hz⟩ := Option.map_eq_some_iff.1 str_info
  simp only [Prod.mk.injEq] at hz
  obtain ⟨hz0, hz1, hz2⟩ := hz
  obtain ⟨a, c, rfl, hks, hnc, hcm, hnil, hat⟩ := h.slice
  obtain ⟨n, hn⟩ : ∃ n, n = ks.length := ⟨_, rfl⟩
  have HO := Lib.hid h
  have HRIS := Lib.hid hr
  have HK := Lib.hid hks
  rw [← hn] at hl hnc ⊢
  have HN := Lib.hid hn
  obtain ⟨z, hz⟩ : ∃ z, z = tx s := ⟨_, rfl⟩
  rw [← hz]
  have HZ := Lib.hid hz
  have HNIL := Lib.hid hnil
  have HAT := Lib.hid hat
  have HCM := Lib.hid hcm
  clear h hr hks hn hz hnil hat hcm
  go_enter Try.func13, Try.ntmps13
  go_wp2_with fail
  go_loopw [5] (fun u wr => ∃ i : Nat, u = .int .i64 (i : Int) ∧ i ≤ n ∧ (∀ j (h : j < ks.length), j < i → ks[j] < s) ∧ wr = w) (fun u _ => n - (intOf u).toNat)
  case atStart => exact ⟨0, rfl, by omega, fun j _ h => by omega, rfl⟩
  case round =>
    obtain ⟨i, rfl, hi, hs, rfl⟩ := hrel
    have HS := Lib.hid hs
    clear hs
    by_cases hlt : i < n
    · have hi2 : i < ks.length := by rw [← HN.out]; exact hlt
      obtain ⟨b, off, rfl, hb, hc⟩ := HK.out (by omega)
      have c0 := hc i hi2
      obtain ⟨y, hy⟩ : ∃ y, y = tx ks[i] := ⟨_, rfl⟩
      rw [← hy] at c0
      have HY := Lib.hid hy
      have HC := Lib.hid c0
      clear hc hy
      by_cases hlt2 : ks[i] < s
      · have t1 : Op.bytesLess y.toList z.toList = true := by rw [HY.out, HZ.out, less_tx]; exact decide_eq_true hlt2
        go_wp2_with fail
        go_roundw
        case rel =>
          refine ⟨i + 1, by simp, by omega, fun j h hj => ?_, by trivial⟩
          by_cases e : j = i
          · subst e; exact hlt2
          · exact HS.out j h (by omega)
        case measure => simp [intOf]; omega
      · have t1 : Op.bytesLess y.toList z.toList = false := by rw [HY.out, HZ.out, less_tx]; exact decide_eq_false hlt2
        have hpl : place ks s = i := place_take HS.out hi2 hlt2
        have HPL := Lib.hid hpl
        clear hpl
        by_cases heq : ks[i] = s
        · have t2 : (y.toList == z.toList) = true := by rw [HY.out, HZ.out, same_tx]; exact decide_eq_true heq
          go_wp2_with fail
          go_ret
          refine ⟨_, rfl, ?_, Below.refl _ _⟩
          have : add ks s = ks := if_pos (by rw [← heq]; exact List.getElem_mem hi2)
          rw [this]
          have := HO.out
          rw [← HN.out] at this
          exact this
        · have t2 : (y.toList == z.toList) = false := by rw [HY.out, HZ.out, same_tx]; exact decide_eq_false heq
          have hni : ¬ s ∈ ks := fun hs => by
            have hks := HRIS.out
            obtain ⟨h1, h2⟩ := (mem_place hks).1 hs
            have h3 := HPL.out
            simp only [h3] at h2
            exact heq h2
          have HNI := Lib.hid hni
          clear hni
          have hb1 : Below wr.heap.size wr (wr.alloc (.cells #[] 9)) := (Below.refl _ wr).alloc (Nat.le_refl _) _
          have ho1 : KOwn (wr.alloc (.cells #[] 9)) wr.heap.size (.slice (some ⟨wr.heap.size, 0, none⟩) 0 0) [] := World.ownsRow_made wr #[] 0 (Nat.le_refl _) (by unfold maxLen; omega) (by rfl)
          obtain ⟨W1, hW1⟩ : ∃ V, V = wr.alloc (.cells #[] 9) := ⟨_, rfl⟩
          rw [← hW1] at hb1 ho1
          have HW1 := Lib.hid hW1
          have hti : (ks.take i).length = i := by rw [List.length_take, ← HN.out]; omega
          have hs1 : Sees W1 1 (.slice (some ⟨b, off, none⟩) i c) i (kcells (ks.take i)) := by
            have := ((HK.out.below hb1).take i).sees (c := c) HNIL.out
            rw [hti] at this
            exact this
          have H1 := Lib.hid (And.intro hb1 (And.intro ho1 hs1))
          have HTI := Lib.hid hti
          clear hW1 hb1 ho1 hs1 hti
          go_wp2_with (at_builtin; revert HW1)
          intro HW1
          change wpList _ _ _ _ _ (wr.alloc (.cells #[] 9))
          rw [← HW1.out]
          refine wpList_append_sees rfl _ _ _ rfl wr.heap.size 9 i0 _ 1 16 Try.underlying22 hi0 hz0 hz1 hz2 rfl (by omega) (.slice (some ⟨wr.heap.size, 0, none⟩) 0 0) 0 [] rfl H1.out.2.1 (.slice (some ⟨b, off, none⟩) i c) i (kcells (ks.take i)) rfl H1.out.2.2 (kcells_one _) (by unfold maxLen; omega) (by omega) H1.out.1.size ?_
          intro v2 w2 ho2 hb2
          have hb2' := H1.out.1.trans hb2
          have hal := hb2'.alloc hb2'.size (.cells #[.string z] 9)
          have hal2 := (Below.refl w2.heap.size w2).alloc (Nat.le_refl _) (.cells #[.string z] 9)
          have ho2' : KOwn w2 wr.heap.size v2 (ks.take i) := by
            unfold KOwn
            rw [HTI.out]
            have := ho2
            rw [Nat.zero_add, List.nil_append] at this
            exact this
          obtain ⟨a2, c2, hv2, _⟩ := ho2'.slice
          rw [HTI.out] at hv2
          subst hv2
          obtain ⟨W2, hW2⟩ : ∃ V, V = w2.alloc (.cells #[.string z] 9) := ⟨_, rfl⟩
          rw [← hW2] at hal hal2
          have HW2 := Lib.hid hW2
          have H2 := Lib.hid (And.intro hal (And.intro (show W2.ownsRow wr.heap.size 9 1 (.slice a2 i c2) i (kcells (ks.take i)) from by have := ho2'.new hal2; unfold KOwn at this; rw [HTI.out] at this; exact this) (show Sees W2 1 (.slice (some ⟨w2.heap.size, 0, none⟩) 1 1) 1 [.string z] by rw [hW2]; exact sees_one _ _ _ _)))
          clear hb2 hb2' hal hal2 ho2 ho2' hW2
          go_wp2_with (at_builtin; revert HW2)
          intro HW2
          change wpList _ _ _ _ _ (w2.alloc (.cells #[.string z] 9))
          rw [← HW2.out]
          refine wpList_append_sees rfl _ _ _ rfl wr.heap.size 9 i0 _ 1 16 Try.underlying22 hi0 hz0 hz1 hz2 rfl (by omega) (.slice a2 i c2) i (kcells (ks.take i)) rfl H2.out.2.1 (.slice (some ⟨w2.heap.size, 0, none⟩) 1 1) 1 [.string z] rfl H2.out.2.2 (fun u hu => by rw [List.mem_singleton.1 hu]; rfl) (by unfold maxLen; omega) (by omega) H2.out.1.size ?_
          intro v3 w3 ho3 hb3
          have hb3' := H2.out.1.trans hb3
          have hl3 : (ks.take i ++ [s]).length = i + 1 := by rw [List.length_append, HTI.out]; rfl
          have ho3' : KOwn w3 wr.heap.size v3 (ks.take i ++ [s]) := by
            unfold KOwn
            rw [hl3, kcells_app, show kcells [s] = [.string z] by rw [HZ.out]; rfl]
            exact ho3
          obtain ⟨a3, c3, hv3, _⟩ := ho3'.slice
          rw [hl3] at hv3
          subst hv3
          have H3 := Lib.hid (And.intro hb3' (show w3.ownsRow wr.heap.size 9 1 (.slice a3 (i + 1) c3) (i + 1) (kcells (ks.take i ++ [s])) from by unfold KOwn at ho3'; rw [hl3] at ho3'; exact ho3'))
          clear hb3 hb3' ho3 ho3'
          have hadd : (ks.take i ++ [s] ++ ks.drop i) = add ks s := by
            rw [add, if_neg HNI.out, HPL.out, List.append_assoc]
            rfl
          have hld : (ks.drop i).length = n - i := by rw [List.length_drop, HN.out]
          have H4 := Lib.hid (And.intro hadd (And.intro hl3 hld))
          clear hadd hl3 hld
          by_cases hic : i < c
          · skip
            have hs3 : Sees w3 1 (.slice (some ⟨b, off + i, none⟩) (n - i) (c - i)) (n - i) (kcells (ks.drop i)) := by
              have := ((HK.out.below H3.out.1).drop (m := i) (by rw [← HN.out]; omega)).sees (c := c - i) (fun h => by cases h)
              rw [H4.out.2.2] at this
              exact this
            have HS3 := Lib.hid hs3
            clear hs3
            go_wp2_with (at_builtin; revert HS3)
            intro HS3
            refine wpList_append_sees rfl _ _ _ rfl wr.heap.size 9 i0 _ 1 16 Try.underlying22 hi0 hz0 hz1 hz2 rfl (by omega) (.slice a3 (i + 1) c3) (i + 1) (kcells (ks.take i ++ [s])) rfl H3.out.2 (.slice (some ⟨b, off + i, none⟩) (n - i) (c - i)) (n - i) (kcells (ks.drop i)) rfl HS3.out (kcells_one _) (by unfold maxLen; omega) (by omega) H3.out.1.size ?_
            intro v4 w4 ho4 hb4
            have hend : KOwn w4 B v4 (add ks s) := by
              refine KOwn.base (B := wr.heap.size) ?_ hB
              rw [← H4.out.1]
              unfold KOwn
              rw [List.length_append, kcells_app, H4.out.2.1, H4.out.2.2]
              exact ho4
            have HE := Lib.hid (And.intro hend (H3.out.1.trans hb4))
            clear ho4 hb4 hend
            go_wp2_with fail
            go_ret
            exact ⟨_, rfl, HE.out.1, HE.out.2⟩
          · omega
    · have hin : i = n := by omega
      subst hin
      have hpl : place ks s = i := place_of (fun j hj hji => HS.out j hj hji) (by rw [HN.out]; omega) (fun h => by have := HN.out; omega)
      have HPL := Lib.hid hpl
      have hni : ¬ s ∈ ks := fun hs => by
        have hks := HRIS.out
        obtain ⟨h1, h2⟩ := (mem_place hks).1 hs
        have h3 := HPL.out
        have := HN.out
        omega
      have HNI := Lib.hid hni
      clear hpl hni
      rcases a with _ | ⟨b, off, sp⟩
      · have hc0 := HNIL.out rfl
        subst hc0
        have hi0' : i = 0 := by omega
        subst hi0'
        have hb1 : Below wr.heap.size wr (wr.alloc (.cells #[] 9)) := (Below.refl _ wr).alloc (Nat.le_refl _) _
        have ho1 : KOwn (wr.alloc (.cells #[] 9)) wr.heap.size (.slice (some ⟨wr.heap.size, 0, none⟩) 0 0) [] := World.ownsRow_made wr #[] 0 (Nat.le_refl _) (by unfold maxLen; omega) (by rfl)
        obtain ⟨W1, hW1⟩ : ∃ V, V = wr.alloc (.cells #[] 9) := ⟨_, rfl⟩
        rw [← hW1] at hb1 ho1
        have HW1 := Lib.hid hW1
        have hti : (ks.take 0).length = 0 := by rw [List.length_take, ← HN.out]; omega
        have hs1 : Sees W1 1 (.slice none 0 0) 0 (kcells (ks.take 0)) := by
          have := ((HK.out.below hb1).take 0).sees (c := 0) HNIL.out
          rw [hti] at this
          exact this
        have H1 := Lib.hid (And.intro hb1 (And.intro ho1 hs1))
        have HTI := Lib.hid hti
        clear hW1 hb1 ho1 hs1 hti
        go_wp2_with (at_builtin; revert HW1)
        intro HW1
        change wpList _ _ _ _ _ (wr.alloc (.cells #[] 9))
        rw [← HW1.out]
        refine wpList_append_sees rfl _ _ _ rfl wr.heap.size 9 i0 _ 1 16 Try.underlying22 hi0 hz0 hz1 hz2 rfl (by omega) (.slice (some ⟨wr.heap.size, 0, none⟩) 0 0) 0 [] rfl H1.out.2.1 (.slice none 0 0) 0 (kcells (ks.take 0)) rfl H1.out.2.2 (kcells_one _) (by unfold maxLen; omega) (by omega) H1.out.1.size ?_
        intro v2 w2 ho2 hb2
        have hb2' := H1.out.1.trans hb2
        have hal := hb2'.alloc hb2'.size (.cells #[.string z] 9)
        have hal2 := (Below.refl w2.heap.size w2).alloc (Nat.le_refl _) (.cells #[.string z] 9)
        have ho2' : KOwn w2 wr.heap.size v2 (ks.take 0) := by
          unfold KOwn
          rw [HTI.out]
          have := ho2
          rw [Nat.zero_add, List.nil_append] at this
          exact this
        obtain ⟨a2, c2, hv2, _⟩ := ho2'.slice
        rw [HTI.out] at hv2
        subst hv2
        obtain ⟨W2, hW2⟩ : ∃ V, V = w2.alloc (.cells #[.string z] 9) := ⟨_, rfl⟩
        rw [← hW2] at hal hal2
        have HW2 := Lib.hid hW2
        have H2 := Lib.hid (And.intro hal (And.intro (show W2.ownsRow wr.heap.size 9 1 (.slice a2 0 c2) 0 (kcells (ks.take 0)) from by have := ho2'.new hal2; unfold KOwn at this; rw [HTI.out] at this; exact this) (show Sees W2 1 (.slice (some ⟨w2.heap.size, 0, none⟩) 1 1) 1 [.string z] by rw [hW2]; exact sees_one _ _ _ _)))
        clear hb2 hb2' hal hal2 ho2 ho2' hW2
        go_wp2_with (at_builtin; revert HW2)
        intro HW2
        change wpList _ _ _ _ _ (w2.alloc (.cells #[.string z] 9))
        rw [← HW2.out]
        refine wpList_append_sees rfl _ _ _ rfl wr.heap.size 9 i0 _ 1 16 Try.underlying22 hi0 hz0 hz1 hz2 rfl (by omega) (.slice a2 0 c2) 0 (kcells (ks.take 0)) rfl H2.out.2.1 (.slice (some ⟨w2.heap.size, 0, none⟩) 1 1) 1 [.string z] rfl H2.out.2.2 (fun u hu => by rw [List.mem_singleton.1 hu]; rfl) (by unfold maxLen; omega) (by omega) H2.out.1.size ?_
        intro v3 w3 ho3 hb3
        have hb3' := H2.out.1.trans hb3
        have hl3 : (ks.take 0 ++ [s]).length = 0 + 1 := by rw [List.length_append, HTI.out]; rfl
        have ho3' : KOwn w3 wr.heap.size v3 (ks.take 0 ++ [s]) := by
          unfold KOwn
          rw [hl3, kcells_app, show kcells [s] = [.string z] by rw [HZ.out]; rfl]
          exact ho3
        obtain ⟨a3, c3, hv3, _⟩ := ho3'.slice
        rw [hl3] at hv3
        subst hv3
        have H3 := Lib.hid (And.intro hb3' (show w3.ownsRow wr.heap.size 9 1 (.slice a3 (0 + 1) c3) (0 + 1) (kcells (ks.take 0 ++ [s])) from by unfold KOwn at ho3'; rw [hl3] at ho3'; exact ho3'))
        clear hb3 hb3' ho3 ho3'
        have hadd : (ks.take 0 ++ [s] ++ ks.drop 0) = add ks s := by
          rw [add, if_neg HNI.out, HPL.out, List.append_assoc]
          rfl
        have hld : (ks.drop 0).length = 0 - 0 := by rw [List.length_drop, HN.out]
        have H4 := Lib.hid (And.intro hadd (And.intro hl3 hld))
        clear hadd hl3 hld
        have hs3 : Sees w3 1 (.slice none 0 0) 0 (kcells (ks.drop 0)) := by
          have := H4.out.2.2
          rw [List.eq_nil_of_length_eq_zero (l := ks.drop 0) (by omega)]
          exact .inl ⟨rfl, rfl, rfl⟩
        have HS3 := Lib.hid hs3
        clear hs3
        go_wp2_with (at_builtin; revert HS3)
        intro HS3
        refine wpList_append_sees rfl _ _ _ rfl wr.heap.size 9 i0 _ 1 16 Try.underlying22 hi0 hz0 hz1 hz2 rfl (by omega) (.slice a3 (0 + 1) c3) (0 + 1) (kcells (ks.take 0 ++ [s])) rfl H3.out.2 (.slice none 0 0) 0 (kcells (ks.drop 0)) rfl HS3.out (kcells_one _) (by unfold maxLen; omega) (by omega) H3.out.1.size ?_
        intro v4 w4 ho4 hb4
        have hend : KOwn w4 B v4 (add ks s) := by
          refine KOwn.base (B := wr.heap.size) ?_ hB
          rw [← H4.out.1]
          unfold KOwn
          rw [List.length_append, kcells_app, H4.out.2.1, H4.out.2.2]
          exact ho4
        have HE := Lib.hid (And.intro hend (H3.out.1.trans hb4))
        clear ho4 hb4 hend
        go_wp2_with fail
        go_ret
        exact ⟨_, rfl, HE.out.1, HE.out.2⟩
      · obtain ⟨_, _, h3, h4⟩ := HAT.out _ rfl
        simp only at h3 h4
        subst h3; subst h4
        have hb1 : Below wr.heap.size wr (wr.alloc (.cells #[] 9)) := (Below.refl _ wr).alloc (Nat.le_refl _) _
        have ho1 : KOwn (wr.alloc (.cells #[] 9)) wr.heap.size (.slice (some ⟨wr.heap.size, 0, none⟩) 0 0) [] := World.ownsRow_made wr #[] 0 (Nat.le_refl _) (by unfold maxLen; omega) (by rfl)
        obtain ⟨W1, hW1⟩ : ∃ V, V = wr.alloc (.cells #[] 9) := ⟨_, rfl⟩
        rw [← hW1] at hb1 ho1
        have HW1 := Lib.hid hW1
        have hti : (ks.take i).length = i := by rw [List.length_take, ← HN.out]; omega
        have hs1 : Sees W1 1 (.slice (some ⟨b, 0, none⟩) i c) i (kcells (ks.take i)) := by
          have := ((HK.out.below hb1).take i).sees (c := c) HNIL.out
          rw [hti] at this
          exact this
        have H1 := Lib.hid (And.intro hb1 (And.intro ho1 hs1))
        have HTI := Lib.hid hti
        clear hW1 hb1 ho1 hs1 hti
        go_wp2_with (at_builtin; revert HW1)
        intro HW1
        change wpList _ _ _ _ _ (wr.alloc (.cells #[] 9))
        rw [← HW1.out]
        refine wpList_append_sees rfl _ _ _ rfl wr.heap.size 9 i0 _ 1 16 Try.underlying22 hi0 hz0 hz1 hz2 rfl (by omega) (.slice (some ⟨wr.heap.size, 0, none⟩) 0 0) 0 [] rfl H1.out.2.1 (.slice (some ⟨b, 0, none⟩) i c) i (kcells (ks.take i)) rfl H1.out.2.2 (kcells_one _) (by unfold maxLen; omega) (by omega) H1.out.1.size ?_
        intro v2 w2 ho2 hb2
        have hb2' := H1.out.1.trans hb2
        have hal := hb2'.alloc hb2'.size (.cells #[.string z] 9)
        have hal2 := (Below.refl w2.heap.size w2).alloc (Nat.le_refl _) (.cells #[.string z] 9)
        have ho2' : KOwn w2 wr.heap.size v2 (ks.take i) := by
          unfold KOwn
          rw [HTI.out]
          have := ho2
          rw [Nat.zero_add, List.nil_append] at this
          exact this
        obtain ⟨a2, c2, hv2, _⟩ := ho2'.slice
        rw [HTI.out] at hv2
        subst hv2
        obtain ⟨W2, hW2⟩ : ∃ V, V = w2.alloc (.cells #[.string z] 9) := ⟨_, rfl⟩
        rw [← hW2] at hal hal2
        have HW2 := Lib.hid hW2
        have H2 := Lib.hid (And.intro hal (And.intro (show W2.ownsRow wr.heap.size 9 1 (.slice a2 i c2) i (kcells (ks.take i)) from by have := ho2'.new hal2; unfold KOwn at this; rw [HTI.out] at this; exact this) (show Sees W2 1 (.slice (some ⟨w2.heap.size, 0, none⟩) 1 1) 1 [.string z] by rw [hW2]; exact sees_one _ _ _ _)))
        clear hb2 hb2' hal hal2 ho2 ho2' hW2
        go_wp2_with (at_builtin; revert HW2)
        intro HW2
        change wpList _ _ _ _ _ (w2.alloc (.cells #[.string z] 9))
        rw [← HW2.out]
        refine wpList_append_sees rfl _ _ _ rfl wr.heap.size 9 i0 _ 1 16 Try.underlying22 hi0 hz0 hz1 hz2 rfl (by omega) (.slice a2 i c2) i (kcells (ks.take i)) rfl H2.out.2.1 (.slice (some ⟨w2.heap.size, 0, none⟩) 1 1) 1 [.string z] rfl H2.out.2.2 (fun u hu => by rw [List.mem_singleton.1 hu]; rfl) (by unfold maxLen; omega) (by omega) H2.out.1.size ?_
        intro v3 w3 ho3 hb3
        have hb3' := H2.out.1.trans hb3
        have hl3 : (ks.take i ++ [s]).length = i + 1 := by rw [List.length_append, HTI.out]; rfl
        have ho3' : KOwn w3 wr.heap.size v3 (ks.take i ++ [s]) := by
          unfold KOwn
          rw [hl3, kcells_app, show kcells [s] = [.string z] by rw [HZ.out]; rfl]
          exact ho3
        obtain ⟨a3, c3, hv3, _⟩ := ho3'.slice
        rw [hl3] at hv3
        subst hv3
        have H3 := Lib.hid (And.intro hb3' (show w3.ownsRow wr.heap.size 9 1 (.slice a3 (i + 1) c3) (i + 1) (kcells (ks.take i ++ [s])) from by unfold KOwn at ho3'; rw [hl3] at ho3'; exact ho3'))
        clear hb3 hb3' ho3 ho3'
        have hadd : (ks.take i ++ [s] ++ ks.drop i) = add ks s := by
          rw [add, if_neg HNI.out, HPL.out, List.append_assoc]
          rfl
        have hld : (ks.drop i).length = 0 := by rw [List.length_drop, ← HN.out, Nat.sub_self]
        have H4 := Lib.hid (And.intro hadd (And.intro hl3 hld))
        clear hadd hl3 hld
        by_cases hic : i < c
        · skip
          have hs3 : Sees w3 1 (.slice (some ⟨b, i, none⟩) 0 (c - i)) 0 (kcells (ks.drop i)) := by
            have := ((HK.out.below H3.out.1).drop (m := i) (by have := HN.out; omega)).sees (c := c - i) (fun h => by cases h)
            rw [H4.out.2.2, Nat.zero_add] at this
            exact this
          have HS3 := Lib.hid hs3
          clear hs3
          go_wp2_with (at_builtin; revert HS3)
          intro HS3
          refine wpList_append_sees rfl _ _ _ rfl wr.heap.size 9 i0 _ 1 16 Try.underlying22 hi0 hz0 hz1 hz2 rfl (by omega) (.slice a3 (i + 1) c3) (i + 1) (kcells (ks.take i ++ [s])) rfl H3.out.2 (.slice (some ⟨b, i, none⟩) 0 (c - i)) 0 (kcells (ks.drop i)) rfl HS3.out (kcells_one _) (by unfold maxLen; omega) (by omega) H3.out.1.size ?_
          intro v4 w4 ho4 hb4
          have hend : KOwn w4 B v4 (add ks s) := by
            refine KOwn.base (B := wr.heap.size) ?_ hB
            rw [← H4.out.1]
            unfold KOwn
            rw [List.length_append, kcells_app, H4.out.2.1, H4.out.2.2]
            exact ho4
          have HE := Lib.hid (And.intro hend (H3.out.1.trans hb4))
          clear ho4 hb4 hend
          go_wp2_with fail
          go_ret
          exact ⟨_, rfl, HE.out.1, HE.out.2⟩
        · have hic2 : c = i := by omega
          subst hic2
          have hs3 : Sees w3 1 (.slice (some ⟨b, 0, none⟩) 0 0) 0 (kcells (ks.drop c)) := by
            have e : ks.drop c = [] := List.eq_nil_of_length_eq_zero (by rw [List.length_drop]; have := HN.out; omega)
            rw [e]
            exact .inr ⟨_, _, rfl, rfl, fun j u hu => by simp [kcells] at hu⟩
          have HS3 := Lib.hid hs3
          clear hs3
          go_wp2_with (at_builtin; revert HS3)
          intro HS3
          refine wpList_append_sees rfl _ _ _ rfl wr.heap.size 9 i0 _ 1 16 Try.underlying22 hi0 hz0 hz1 hz2 rfl (by omega) (.slice a3 (c + 1) c3) (c + 1) (kcells (ks.take c ++ [s])) rfl H3.out.2 (.slice (some ⟨b, 0, none⟩) 0 0) 0 (kcells (ks.drop c)) rfl HS3.out (kcells_one _) (by unfold maxLen; omega) (by omega) H3.out.1.size ?_
          intro v4 w4 ho4 hb4
          have hend : KOwn w4 B v4 (add ks s) := by
            refine KOwn.base (B := wr.heap.size) ?_ hB
            rw [← H4.out.1]
            unfold KOwn
            rw [List.length_append, kcells_app, H4.out.2.1, H4.out.2.2]
            exact ho4
          have HE := Lib.hid (And.intro hend (H3.out.1.trans hb4))
          clear ho4 hb4 hend
          go_wp2_with fail
          go_ret
          exact ⟨_, rfl, HE.out.1, HE.out.2⟩
end
end Go.Proofs.Ytbhoknnjilidnaa.Fold

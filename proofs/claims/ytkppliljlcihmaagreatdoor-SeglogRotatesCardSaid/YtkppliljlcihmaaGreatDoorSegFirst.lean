/- Contract: the first manifest, on an empty disk. -/
import Derived.Test.YtkppliljlcihmaaGreatDoorGP
namespace Go.Proofs.YtkppliljlcihmaaGreatDoor.Seg
open Go.Proofs.YtkppliljlcihmaaGreatDoor.Mem
open Go.Proofs.YtkppliljlcihmaaGreatDoor.Disk (Nm File St Eff Has grow errV used readOf lenOf run)
open Go.ChangeShapes Go.WideShapes Go.ChangeAt Go.RowKit
set_option linter.unusedVariables false
set_option linter.unusedSimpArgs false

section
variable {w w1 w2 : World} {p : Nat} {S S1 S2 : St} {F F1 F2 : Nat → Prop}
/- What is left behind a call, the disk's blocks named. -/
def Step (w : World) (p : Nat) (F : Nat → Prop) (S' : St) (w' : World) (F' : Nat → Prop) : Prop := Dsk w' p S' F' ∧ (∀ k, F' k → grow F w w' k) ∧ But F w w'
theorem Next.step (h : Next w p F S w1) : Step w p F S w1 (grow F w w1) := ⟨h.1, fun _ hk => hk, h.2⟩
theorem Step.size (h : Step w p F S w1 F1) : w.heap.size ≤ w1.heap.size := h.2.2.size
theorem Step.refl (h : Dsk w p S F) : Step w p F S w F := ⟨h, fun _ hk => .inl hk, But.refl F w⟩
theorem Step.new (h : Dsk w p S F) (hb : Below w.heap.size w w1) : Step w p F S w1 F := ⟨h.below hb, fun _ hk => .inl hk, But.of_new hb⟩
theorem Step.trans (h : Step w p F S1 w1 F1) (k : Step w1 p F1 S2 w2 F2) : Step w p F S2 w2 F2 := by
  have s1 := h.size
  have s2 := k.size
  refine ⟨k.1, fun i hi => ?_, h.2.2.trans k.2.2 (fun i hi hg => ?_)⟩
  · rcases k.2.1 i hi with hg | hg
    · rcases h.2.1 i hg with h1 | h1
      · exact .inl h1
      · exact .inr ⟨h1.1, by omega⟩
    · exact .inr ⟨by omega, hg.2⟩
  · rcases h.2.1 i hg with h1 | h1
    · exact h1
    · omega
theorem Step.below_ (h : Step w p F S1 w1 F1) (hb : Below w1.heap.size w1 w2) : Step w p F S1 w2 F1 := h.trans (Step.new h.1 hb)
/- Blocks laid besides the disk's. -/
theorem Step.but (h : Step w p F S1 w1 F1) {T : Nat → Prop} (hb : But T w1 w2) (hT : ∀ k, T k → ¬ F1 k) (hT2 : ∀ k, T k → w.heap.size ≤ k) : Step w p F S1 w2 F1 := by
  have s1 := h.size
  have s2 := hb.size
  refine ⟨⟨h.1.1.but hb (fun k hk ht => hT k ht hk), h.1.2⟩, fun i hi => ?_, h.2.2.trans hb (fun i hi ht => by have := hT2 i ht; omega)⟩
  rcases h.2.1 i hi with h1 | h1
  · exact .inl h1
  · exact .inr ⟨h1.1, by omega⟩
/- What an effect that is done leaves. -/
theorem call_files {x : Eff} {S : St} (h : (x.call S).1 = 0) : (x.call S).2.files = x.on S.files ∧ (x.call S).2.down = false ∧ S.down = false ∧ x.may S.cap S.files := by
  by_cases hm : S.down = false ∧ x.may S.cap S.files
  · have e := Disk.call_eq x S hm.1 hm.2
    cases hn : Disk.now S with
    | none =>
      rw [Disk.effect_done hn] at e
      rw [e]
      exact ⟨rfl, hm.1, hm.1, hm.2⟩
    | some kp =>
      rw [Disk.effect_crash hn] at e
      rw [e] at h
      cases h
  · exact absurd h (call_not x S hm).2
theorem run_files {xs : List Eff} {S : St} (hd : S.down = false) (h : (run xs S).1 = 0) : (run xs S).2.files = Disk.ons xs S.files ∧ (run xs S).2.down = false ∧ Disk.Mays S.cap xs S.files := by
  induction xs generalizing S with
  | nil => exact ⟨rfl, hd, trivial⟩
  | cons x r ih =>
    by_cases hx : (x.call S).1 = 0
    · rw [run_cons_ok hx] at h ⊢
      obtain ⟨h1, h2, _, h4⟩ := call_files hx
      obtain ⟨g1, g2, g3⟩ := ih h2 h
      have hc : (x.call S).2.cap = S.cap := by
        rw [Disk.call_eq x S hd h4]
        cases hn : Disk.now S with
        | none => rw [Disk.effect_done hn]; rfl
        | some kp => rw [Disk.effect_crash hn]; rfl
      rw [h1] at g1 g3
      rw [hc] at g3
      exact ⟨g1, g2, h4, g3⟩
    · rw [run_cons_err hx] at h
      exact absurd h hx
theorem not_grow {k : Nat} (h1 : ¬ F k) (h2 : k < w.heap.size) : ¬ grow F w w1 k := Next.not_ h1 h2
/- What is answered with a manifest: it, or the error that the disk told. -/
def ManAfter (w : World) (p : Nat) (F : Nat → Prop) (r : Int × St) (ns : List Nat) (base : Nat) (begun : Bool) (e : Ending) (w' : World) : Prop :=
  ∃ F', Step w p F r.2 w' F' ∧ ((r.1 = 0 ∧ ∃ g c, e = .returned (.tuple #[manV g 0 ns.length c base begun, .nilIface]) ∧ Nms w' g 0 c ns ∧ w.heap.size ≤ g ∧ ¬ F' g) ∨ (r.1 ≠ 0 ∧ e = .returned (.tuple #[noMan, errV r.1])))
theorem first_shape {base : Nat} {v : Value} (h : w.ownsRow base 9 1 v 0 []) : ∃ a c, v = .slice a 0 c := by
  rcases h.2 with ⟨h1, h2⟩ | ⟨g, cap, cur, h1, _⟩
  · exact ⟨_, _, h1⟩
  · exact ⟨_, _, h1⟩
set_option maxRecDepth 100000 in
set_option maxHeartbeats 4000000 in
theorem firstManifest_any (h : Dsk w p S F) (hf : S.files = []) :
    Calls Tryz.prog 54 #[.pointer (some ⟨p, 0, none⟩)] w (ManAfter w p F (run (rotA 1 (manFile [1] 0 false)) S) [1] 0 false) := by
  have hlt := h.lt
  have b0 := ResAt.new w
  have hb0 := (Below.refl _ w).alloc (Nat.le_refl _) (.cells #[.slice none 0 0, .int .i64 0, .bool false] 72)
  have hs0 : (w.alloc (.cells #[.slice none 0 0, .int .i64 0, .bool false] 72)).heap.size = w.heap.size + 1 := by simp
  obtain ⟨WA, hWA⟩ : ∃ W, W = w.alloc (.cells #[.slice none 0 0, .int .i64 0, .bool false] 72) := ⟨_, rfl⟩
  rw [← hWA] at b0 hb0 hs0
  have b1 := Disk.Blk.new WA 3 #[.int .i64 1]
  have hb1 := (Below.refl _ WA).alloc (Nat.le_refl _) (.cells #[.int .i64 1] 3)
  have hs1 : (WA.alloc (.cells #[.int .i64 1] 3)).heap.size = w.heap.size + 2 := by simp [hs0]
  obtain ⟨WB, hWB⟩ : ∃ W, W = WA.alloc (.cells #[.int .i64 1] 3) := ⟨_, rfl⟩
  rw [← hWB] at b1 hb1 hs1
  rw [hs0] at b1
  have b2 := Disk.Blk.new WB 72 #[.slice (some ⟨w.heap.size + 1, 0, none⟩) 1 1, .int .i64 0, .bool false]
  have hb2 := (Below.refl _ WB).alloc (Nat.le_refl _) (.cells #[.slice (some ⟨w.heap.size + 1, 0, none⟩) 1 1, .int .i64 0, .bool false] 72)
  have hs2 : (WB.alloc (.cells #[.slice (some ⟨w.heap.size + 1, 0, none⟩) 1 1, .int .i64 0, .bool false] 72)).heap.size = w.heap.size + 3 := by simp [hs1]
  obtain ⟨W, hW⟩ : ∃ W, W = WB.alloc (.cells #[.slice (some ⟨w.heap.size + 1, 0, none⟩) 1 1, .int .i64 0, .bool false] 72) := ⟨_, rfl⟩
  rw [← hW] at b2 hb2 hs2
  rw [hs1] at b2
  have hWe : W = ((w.alloc (.cells #[.slice none 0 0, .int .i64 0, .bool false] 72)).alloc (.cells #[.int .i64 1] 3)).alloc (.cells #[.slice (some ⟨w.heap.size + 1, 0, none⟩) 1 1, .int .i64 0, .bool false] 72) := by rw [hW, hWB, hWA]
  have hbW : Below w.heap.size w W := hb0.trans ((hb1.mono (by omega)).trans (hb2.mono (by omega)))
  have hR : ResAt W w.heap.size := (b0.below hb1).below hb2
  have hN : Nms W (w.heap.size + 1) 0 1 [1] := ⟨by omega, by simp, by unfold maxLen; omega, fun i hi => by
    have hi0 : i = 0 := by simp at hi; omega
    subst hi0
    exact (b1.but (But.of_below hb2) (by omega)).cell 0⟩
  have HB := Lib.hid hbW
  have HR := Lib.hid hR
  have HN := Lib.hid hN
  have HM := Lib.hid b2
  have HZ := Lib.hid hs2
  have hD := h.below hbW
  have HD := Lib.hid hD
  have c1 := dsk_list hD
  rw [hf] at c1
  simp only [List.length_nil, List.map_nil] at c1
  have HF := Lib.hid hf
  have H0 := Lib.hid h
  have HLT := Lib.hid hlt
  obtain ⟨R, hRR⟩ : ∃ R, R = run (rotA 1 (manFile [1] 0 false)) S := ⟨_, rfl⟩
  rw [← hRR]
  have HRR := Lib.hid hRR
  obtain ⟨b, hbz⟩ : ∃ b, b = w.heap.size + 1 + 1 := ⟨_, rfl⟩
  have HBZ := Lib.hid (show b = w.heap.size + 2 from hbz)
  clear h hlt b0 hb0 hs0 b1 hb1 hs1 b2 hb2 hs2 hWA hWB hW hbW hR hN hD hf hRR
  go_enter Tryz.func54, Tryz.ntmps54
  go_wp2_with fail
  rw [← hWe, ← hbz]
  clear hWe hbz
  refine c1.mono ?_
  rintro e w1 ⟨v, rfl, ho1, hb1⟩
  obtain ⟨a1, cp1, rfl⟩ := first_shape ho1
  have hD1 := HD.out.below hb1
  have HR1 := Lib.hid (HR.out.below hb1)
  have HN1 := Lib.hid (HN.out.below hb1)
  have hm1 := HM.out.but (But.of_below hb1) (by have := HZ.out; omega)
  rw [← HBZ.out] at hm1
  have HM1 := Lib.hid hm1
  have HB1 := Lib.hid (HB.out.trans (hb1.mono HB.out.size))
  have HZ1 := Lib.hid (show w.heap.size + 3 ≤ w1.heap.size by have := hb1.size; have := HZ.out; omega)
  have c2 := deleteAll_any hD1 a1 cp1 [] (fun h => absurd h (by simp)) (fun q _ h => absurd h (by simp)) (by simp) (by simp)
  rw [show run (goneN []) S = (0, S) from rfl] at c2
  unfold After at c2
  rw [errV_ok rfl] at c2
  have HNF := Lib.hid (show ∀ k, w.heap.size ≤ k → ¬ F k from fun k hk hF => by have := HLT.out k hF; omega)
  have HS1 := Lib.hid (Step.new H0.out HB1.out)
  clear ho1 hb1 c1 hD1 hm1 HR HN HM HB
  go_wp2_with fail
  refine c2.mono ?_
  rintro e w2 ⟨rfl, hN2⟩
  have HS2 := Lib.hid (HS1.out.trans hN2.step)
  have hbt := hN2.2
  have HW2 := Lib.hid hN2.size
  have HR2 := Lib.hid (HR1.out.but hbt (HNF.out _ (Nat.le_refl _)))
  have HN2 := Lib.hid (HN1.out.but hbt (HNF.out _ (Nat.le_succ _)))
  have hm2 := HM1.out.but hbt (HNF.out _ (by have := HBZ.out; omega))
  have HM2 := Lib.hid hm2
  have HG2 := Lib.hid (show ∀ k, w.heap.size ≤ k → k < w1.heap.size → ¬ grow F w1 w2 k from fun k h1 h2 => not_grow (HNF.out k h1) h2)
  have q0 : w2.cell? ⟨b, 0, none⟩ = some _ := hm2.cell 0
  have q1 : w2.cell? ⟨b, 1, none⟩ = some _ := hm2.cell 1
  have q2 : w2.cell? ⟨b, 2, none⟩ = some _ := hm2.cell 2
  have c3 := last_any HN2.out (i := 1) rfl 0 false
  unfold manV at c3
  clear hN2 hbt hm2 c2 HR1 HN1 HM1
  go_wp2_with fail
  refine c3.mono ?_
  rintro e w3 ⟨rfl, hb3⟩
  have c4 := segmentFile_any (w := w3) 1 (by omega) (.inl (by omega))
  have HS3 := Lib.hid (HS2.out.below_ hb3)
  have HR3 := Lib.hid (HR2.out.below hb3)
  have HN3 := Lib.hid (HN2.out.below hb3)
  have HM3 := Lib.hid (HM2.out.but (But.of_below hb3) (by have := HM2.out.lt; omega))
  have HW3 := Lib.hid hb3.size
  clear c3 hb3 HS2 HR2 HN2 HM2 q0 q1 q2
  go_wp2_with fail
  refine c4.mono ?_
  rintro e w4 ⟨rfl, hb4⟩
  have HS4 := Lib.hid (HS3.out.below_ hb4)
  have HR4 := Lib.hid (HR3.out.below hb4)
  have HN4 := Lib.hid (HN3.out.below hb4)
  have HM4 := Lib.hid (HM3.out.but (But.of_below hb4) (by have := HM3.out.lt; omega))
  have c5 := dsk_new HS4.out.1 (segB 1) (segB_size 1 (by omega))
  rw [segB_nm] at c5
  have HW4 := Lib.hid (show w1.heap.size ≤ w4.heap.size from Nat.le_trans HW2.out (Nat.le_trans HW3.out hb4.size))
  clear c4 hb4 HS3 HR3 HN3 HM3
  by_cases e5 : ((Eff.new (seg 1)).call S).1 = 0
  · have HQ5 := Lib.hid (run_cons_ok (r := sw (manFile [1] 0 false)) e5)
    unfold After at c5
    rw [errV_ok e5] at c5
    have HE5 := Lib.hid e5
    clear e5
    go_wp2_with fail
    refine c5.mono ?_
    rintro e w5 ⟨rfl, hN5⟩
    have HS5 := Lib.hid (HS4.out.trans hN5.step)
    have hbt := hN5.2
    have HW5 := Lib.hid hN5.size
    have HR5 := Lib.hid (HR4.out.but hbt (HG2.out _ (Nat.le_refl _) (by have := HZ1.out; omega)))
    have hn5 := HN4.out.but hbt (HG2.out _ (Nat.le_succ _) (by have := HZ1.out; omega))
    have HN5 := Lib.hid hn5
    have hm5 := HM4.out.but hbt (HG2.out _ (by have := HBZ.out; omega) (by have := HZ1.out; have := HBZ.out; omega))
    have HM5 := Lib.hid hm5
    have q0 : w5.cell? ⟨b, 0, none⟩ = some _ := hm5.cell 0
    have q1 : w5.cell? ⟨b, 1, none⟩ = some _ := hm5.cell 1
    have q2 : w5.cell? ⟨b, 2, none⟩ = some _ := hm5.cell 2
    have hT5 : Disk.look nT ((Eff.new (seg 1)).call S).2.files = none := by
      rw [(call_files HE5.out).1, HF.out]
      show Disk.look nT [(seg 1, _)] = none
      unfold Disk.look
      rw [if_neg (seg_t 1)]; rfl
    have c6 := switchTo_any HS5.out.1 hT5 hn5 (by simp) (by simp) 0 (by omega) false
    unfold manV at c6
    have HG5 := Lib.hid (show ∀ k, w.heap.size ≤ k → k < w1.heap.size → ¬ grow (grow F w1 w2) w4 w5 k from fun k h1 h2 => not_grow (HG2.out k h1 h2) (Nat.lt_of_lt_of_le h2 HW4.out))
    clear c5 hN5 hbt hn5 hm5 hT5 HR4 HN4 HM4
    by_cases e6 : (run (sw (manFile [1] 0 false)) ((Eff.new (seg 1)).call S).2).1 = 0
    · unfold After at c6
      rw [errV_ok e6] at c6
      have HE6 := Lib.hid e6
      clear e6
      go_wp2_with fail
      refine c6.mono ?_
      rintro e w6 ⟨rfl, hN6⟩
      have HS6 := Lib.hid (HS5.out.trans hN6.step)
      have hbt := hN6.2
      have HR6 := Lib.hid (HR5.out.but hbt (HG5.out _ (Nat.le_refl _) (by have := HZ1.out; omega)))
      have HN6 := Lib.hid (HN5.out.but hbt (HG5.out _ (Nat.le_succ _) (by have := HZ1.out; omega)))
      have hm6 := HM5.out.but hbt (HG5.out _ (by have := HBZ.out; omega) (by have := HZ1.out; have := HBZ.out; omega))
      clear q0 q1 q2
      have q0 : w6.cell? ⟨b, 0, none⟩ = some _ := hm6.cell 0
      have q1 : w6.cell? ⟨b, 1, none⟩ = some _ := hm6.cell 1
      have q2 : w6.cell? ⟨b, 2, none⟩ = some _ := hm6.cell 2
      clear hN6 hbt hm6 c6
      obtain ⟨z0, z1, z2, y0, y1, y2⟩ := HR6.out.cells
      go_wp2
      refine bodyPost_ret (Rec.results_row_tmp rfl _ _ w.heap.size 72 #[.slice (some ⟨w.heap.size + 1, 0, none⟩) 1 1, .int .i64 0, .bool false] (0, 0) _ rfl (HR6.out.set3 _ _ _) Tryz.underlying72 rfl man_size) rfl ?_
      have hR : R = run (sw (manFile [1] 0 false)) ((Eff.new (seg 1)).call S).2 := HRR.out.trans HQ5.out
      unfold ManAfter
      rw [hR]
      have hg6 : ∀ k, w.heap.size ≤ k → k < w1.heap.size → ¬ grow (grow (grow F w1 w2) w4 w5) w5 w6 k := fun k h1 h2 => not_grow (HG5.out k h1 h2) (Nat.lt_of_lt_of_le h2 (Nat.le_trans HW4.out HW5.out))
      refine ⟨_, HS6.out.but (but_set3 _ _ _ _ _) (fun k hk => by rw [show k = w.heap.size from hk]; exact hg6 _ (Nat.le_refl _) (by have := HZ1.out; omega)) (fun k hk => Nat.le_of_eq (show k = w.heap.size from hk).symm), .inl ⟨HE6.out, _, _, rfl, HN6.out.but (but_set3 _ _ _ _ _) (show ¬ (w.heap.size + 1 = w.heap.size) by omega), Nat.le_succ _, hg6 _ (Nat.le_succ _) (by have := HZ1.out; omega)⟩⟩
    · have hv := errV_bad e6
      unfold After at c6
      rw [hv] at c6
      have HV := Lib.hid (And.intro e6 hv)
      clear e6 hv
      go_wp2_with fail
      refine c6.mono ?_
      rintro e w6 ⟨rfl, hN6⟩
      have HS6 := Lib.hid (HS5.out.trans hN6.step)
      have HR6 := Lib.hid (HR5.out.but hN6.2 (HG5.out _ (Nat.le_refl _) (by have := HZ1.out; omega)))
      clear hN6 c6 q0 q1 q2
      obtain ⟨z0, z1, z2, y0, y1, y2⟩ := HR6.out.cells
      go_wp2
      refine bodyPost_ret (Rec.results_row_tmp rfl _ _ w.heap.size 72 #[.slice none 0 0, .int .i64 0, .bool false] (0, 0) _ rfl (HR6.out.set3 _ _ _) Tryz.underlying72 rfl man_size) rfl ?_
      have hR : R = run (sw (manFile [1] 0 false)) ((Eff.new (seg 1)).call S).2 := HRR.out.trans HQ5.out
      unfold ManAfter
      rw [hR]
      have hg6 : ∀ k, w.heap.size ≤ k → k < w1.heap.size → ¬ grow (grow (grow F w1 w2) w4 w5) w5 w6 k := fun k h1 h2 => not_grow (HG5.out k h1 h2) (Nat.lt_of_lt_of_le h2 (Nat.le_trans HW4.out HW5.out))
      refine ⟨_, HS6.out.but (but_set3 _ _ _ _ _) (fun k hk => by rw [show k = w.heap.size from hk]; exact hg6 _ (Nat.le_refl _) (by have := HZ1.out; omega)) (fun k hk => Nat.le_of_eq (show k = w.heap.size from hk).symm), .inr ⟨HV.out.1, by rw [HV.out.2]; rfl⟩⟩
  · have HQ5 := Lib.hid (run_cons_err (r := sw (manFile [1] 0 false)) e5)
    have hv := errV_bad e5
    unfold After at c5
    rw [hv] at c5
    have HV := Lib.hid (And.intro e5 hv)
    clear e5 hv
    go_wp2_with fail
    refine c5.mono ?_
    rintro e w5 ⟨rfl, hN5⟩
    have HS5 := Lib.hid (HS4.out.trans hN5.step)
    have HR5 := Lib.hid (HR4.out.but hN5.2 (HG2.out _ (Nat.le_refl _) (by have := HZ1.out; omega)))
    clear hN5 c5
    obtain ⟨z0, z1, z2, y0, y1, y2⟩ := HR5.out.cells
    go_wp2
    refine bodyPost_ret (Rec.results_row_tmp rfl _ _ w.heap.size 72 #[.slice none 0 0, .int .i64 0, .bool false] (0, 0) _ rfl (HR5.out.set3 _ _ _) Tryz.underlying72 rfl man_size) rfl ?_
    have hR : R = (Eff.new (seg 1)).call S := HRR.out.trans HQ5.out
    unfold ManAfter
    rw [hR]
    refine ⟨_, HS5.out.but (but_set3 _ _ _ _ _) (fun k hk => by rw [show k = w.heap.size from hk]; exact not_grow (HG2.out _ (Nat.le_refl _) (by have := HZ1.out; omega)) (by have := HW4.out; have := HZ1.out; omega)) (fun k hk => Nat.le_of_eq (show k = w.heap.size from hk).symm), .inr ⟨HV.out.1, by rw [HV.out.2]; rfl⟩⟩
end
end Go.Proofs.YtkppliljlcihmaaGreatDoor.Seg

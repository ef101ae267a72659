/- Contract: a manifest is made the disk's. -/
import Derived.Test.YtkppliljlcihmaaGreatDoorGO
namespace Go.Proofs.YtkppliljlcihmaaGreatDoor.Seg
open Go.Proofs.YtkppliljlcihmaaGreatDoor.Mem
open Go.Proofs.YtkppliljlcihmaaGreatDoor.Disk (Nm File St Eff Has grow errV used readOf lenOf run)
open Go.Proofs (encStr)
open Go.ChangeShapes Go.WideShapes Go.ChangeAt Go.RowKit
set_option linter.unusedVariables false
set_option linter.unusedSimpArgs false

section
variable {w w1 w2 : World} {p : Nat} {S : St} {F : Nat → Prop}
theorem sw_parts (B : List Int) : sw B = .new nT :: ([.add nT B, .syn nT] ++ [.move nT nM]) := rfl
set_option maxRecDepth 100000 in
set_option maxHeartbeats 4000000 in
theorem switchTo_any (h : Dsk w p S F) (hT : Disk.look nT S.files = none) {g off c : Nat} {nums : List Nat} (hm : Nms w g off c nums) (hl : nums.length ≤ 4000) (hi : ∀ i ∈ nums, i < 4294967296) (base : Nat) (hb : base < 4294967296) (begun : Bool) :
    Calls Tryz.prog 57 #[manV g off nums.length c base begun, .pointer (some ⟨p, 0, none⟩)] w (After w p F (run (sw (manFile nums base begun)) S)) := by
  have hlt := h.lt
  have hml : (manBody nums base begun).length = 7 + 4 * nums.length := manBody_length nums base begun
  have hmb := manBody_bytes nums base begun
  have HD := Lib.hid h
  have HT := Lib.hid hT
  have hbx := (Below.refl _ w).alloc (Nat.le_refl _) (.cells #[.slice (some ⟨g, off, none⟩) nums.length c, .int .i64 (base : Int), .bool begun] 72)
  have c0 := body_any (hm.below hbx) (by omega) hi base hb begun
  have HBX := Lib.hid hbx
  have HML := Lib.hid (And.intro hml hmb)
  obtain ⟨B, hB⟩ : ∃ B, B = manFile nums base begun := ⟨_, rfl⟩
  have HB := Lib.hid hB
  rw [← hB]
  clear h hT hm hi hb hbx hml hmb hB
  obtain ⟨R, hR⟩ : ∃ R, R = run (sw B) S := ⟨_, rfl⟩
  rw [← hR]
  have HR := Lib.hid hR
  clear hR
  have HLT := Lib.hid hlt
  clear hlt
  unfold manV at c0 ⊢
  go_enter Tryz.func57, Tryz.ntmps57
  go_wp2_with fail
  refine c0.mono ?_
  rintro e w1 ⟨v, rfl, ho, hb1⟩
  have hb1 := HBX.out.trans (hb1.mono HBX.out.size)
  obtain ⟨a1, cap1, rfl, hr1, -, hnil1⟩ := own_shape ho HML.out.2
  have c1 := Frame.put_yes a1 cap1 (manBody nums base begun) w1 (by rw [HML.out.1]; exact hr1) (fun hn => by rcases hnil1 with ⟨_, h, _⟩ | ⟨g1, h1, _⟩; exact h; rw [hn] at h1; cases h1) (by rw [HML.out.1]; omega) (by rw [HML.out.1]; omega)
  rw [HML.out.1, Err.errV_zero] at c1
  have HB1 := Lib.hid hb1
  clear ho hr1 hnil1 hb1 c0
  go_wp2_with fail
  refine c1.mono ?_
  rintro e w2 ⟨v2, rfl, ho2, hb2⟩
  obtain ⟨a2, cap2, rfl, hr2, -, hnil2⟩ := own_shape ho2 (Frame.frm_bytes HML.out.2)
  have hbW := HB1.out.trans (hb2.mono HB1.out.size)
  have hD2 := HD.out.below hbW
  have HBW := Lib.hid hbW
  have hnF : ∀ q, a2 = some q → ¬ F q.block ∧ q.block < w2.heap.size := by
    intro q hq
    rcases hnil2 with ⟨h1, _⟩ | ⟨g2, h1, h2, h3, _⟩
    · rw [h1] at hq; cases hq
    · rw [h1] at hq
      injection hq with hq
      subst hq
      exact ⟨fun hf => by have := HLT.out _ hf; have := HB1.out.size; simp only at *; omega, h3⟩
  have HNF := Lib.hid hnF
  have HR2 := Lib.hid (And.intro hr2 (show a2 = none → cap2 = 0 from fun hn => by rcases hnil2 with ⟨_, h, _⟩ | ⟨g1, h1, _⟩; exact h; rw [hn] at h1; cases h1))
  have c2 := deleteIfThere_any hD2 ⟨#[116]⟩ (by decide)
  have e2 : run (if ((none : Option File)).isSome = true then [Eff.gone nT] else []) S = (0, S) := rfl
  rw [show (⟨#[116]⟩ : ByteArray).data.toList = nT from rfl, HT.out, e2] at c2
  unfold After at c2
  rw [errV_ok rfl] at c2
  clear hb2 ho2 hD2 c1 hr2 hnil2 e2 hbW hnF
  go_wp2_with fail
  refine c2.mono ?_
  rintro e w3 ⟨rfl, hN3⟩
  have HN3 := Lib.hid hN3
  have c3 := dsk_new hN3.1 ⟨#[116]⟩ (by decide)
  rw [show (⟨#[116]⟩ : ByteArray).data.toList = nT from rfl] at c3
  clear hN3 c2
  by_cases e3 : ((Eff.new nT).call S).1 = 0
  · have HQ3 := Lib.hid (run_cons_ok (r := [.add nT B, .syn nT] ++ [.move nT nM]) e3)
    unfold After at c3
    rw [errV_ok e3] at c3
    clear e3
    go_wp2_with fail
    refine c3.mono ?_
    rintro e w4 ⟨rfl, hx4⟩
    have hN4 : Next w2 p F _ w4 := HN3.out.trans hx4
    have HN4 := Lib.hid hN4
    have hr4 := HR2.out.1.but hN4.2 (fun q hq _ => (HNF.out q hq).1)
    have c4 := appendSynced_any hN4.1 ⟨#[116]⟩ (by decide) a2 _ cap2 _ hr4 HR2.out.2 (fun q hq _ => Next.not_ (HNF.out q hq).1 (HNF.out q hq).2) (by omega)
    rw [show (⟨#[116]⟩ : ByteArray).data.toList = nT from rfl, show Frame.frm (manBody nums base begun) = B from HB.out.symm] at c4
    clear hx4 hN4 hr4 c3
    by_cases e4 : (run [.add nT B, .syn nT] ((Eff.new nT).call S).2).1 = 0
    · have HQ4 := Lib.hid (HQ3.out.trans ((run_app_ok (b := [.move nT nM]) e4).trans (run_one _ _)))
      unfold After at c4
      rw [errV_ok e4] at c4
      clear e4
      go_wp2_with fail
      refine c4.mono ?_
      rintro e w5 ⟨rfl, hx5⟩
      have hN5 := HN4.out.trans hx5
      have HN5 := Lib.hid hN5
      have c5 := dsk_move hN5.1 ⟨#[116]⟩ (by decide) ⟨#[109]⟩ (by decide)
      clear hx5 hN5 c4
      go_wp2_with fail
      refine c5.mono ?_
      rintro e w6 h6
      obtain ⟨rfl, h7⟩ := After.after HBW.out (After.then_ HN5.out h6)
      clear c5
      go_wp2
      go_ret
      unfold After
      rw [HR.out, sw_parts, HQ4.out]
      exact ⟨rfl, h7⟩
    · have HQ4 := Lib.hid (HQ3.out.trans (run_app_err (b := [.move nT nM]) e4))
      have hv := errV_bad e4
      unfold After at c4
      rw [hv] at c4
      have HV := Lib.hid hv
      clear e4 hv
      go_wp2_with fail
      refine c4.mono ?_
      rintro e w5 ⟨rfl, hx5⟩
      have HN5 := Lib.hid (Next.after HBW.out (HN4.out.trans hx5))
      clear hx5 c4
      go_wp2
      go_ret
      unfold After
      rw [HR.out, sw_parts, HQ4.out, HV.out]
      exact ⟨rfl, HN5.out⟩
  · have HQ3 := Lib.hid (run_cons_err (r := [.add nT B, .syn nT] ++ [.move nT nM]) e3)
    have hv := errV_bad e3
    unfold After at c3
    rw [hv] at c3
    have HV := Lib.hid hv
    clear e3 hv
    go_wp2_with fail
    refine c3.mono ?_
    rintro e w4 ⟨rfl, hx4⟩
    have HN4 := Lib.hid (Next.after HBW.out (HN3.out.trans hx4))
    clear hx4 c3
    go_wp2
    go_ret
    unfold After
    rw [HR.out, sw_parts, HQ3.out, HV.out]
    exact ⟨rfl, HN4.out⟩
end
end Go.Proofs.YtkppliljlcihmaaGreatDoor.Seg

/- The reference's Text answers as the reader's of layer 2 does. -/
import Derived.Test.YtbdbbnpkekcefaaPackRef
namespace Go.Proofs.Ytbdbbnpkekcefaa.Pack
open Go.Proofs.Ytbdbbnpkekcefaa.Mem
open Go.ChangeShapes Go.WideShapes Go.ChangeAt Go.RowKit
set_option linter.unusedVariables false

theorem Rf.but {S : Nat → Prop} {w w' : World} {q bd : Nat} {zs : List Int} {short : Bool} (h : Rf w q bd zs short) (hb : But S w w') (hq : ¬ S q) (hd : ∀ k, k < bd → ¬ S k) : Rf w' q bd zs short := by
  obtain ⟨B, at', a, cap, h0, h1, h2, f1, f2, hr, hlc, hcm, hB, hat, hne, hnil, hz⟩ := h
  have hlt : q < w.heap.size := World.block_lt_of_cell? w ⟨q, 1, none⟩ h1
  exact ⟨B, at', a, cap, (hb.cell (p := ⟨q, 0, none⟩) hlt hq).trans h0, (hb.cell (p := ⟨q, 1, none⟩) hlt hq).trans h1, (hb.cell (p := ⟨q, 2, none⟩) hlt hq).trans h2, (hb.frozen (p := ⟨q, 1, none⟩) hlt hq).trans f1, (hb.frozen (p := ⟨q, 2, none⟩) hlt hq).trans f2,
    hr.but hb (fun p hp hn => hd _ (hne p hp hn).2), hlc, hcm, hB, hat, hne, hnil, hz⟩
set_option maxRecDepth 100000 in
set_option maxHeartbeats 1000000 in
theorem refText_read (q : Nat) {bd : Nat} (zs : List Int) (short : Bool) (w : World) (h : Rf w q bd zs short) (hzb : Bytes zs) :
    Calls Try.prog 57 #[.pointer (some ⟨q, 0, none⟩)] w fun e w' => e = .returned (.string (strOfNums (textGot zs))) ∧ Rf w' q bd (textLeft zs) (textShort zs short) ∧ But (fun b => b = q) w w' := by
  have hN : textLen zs < 65536 := num_got2_lt hzb
  obtain ⟨N, hNN⟩ : ∃ N, N = textLen zs := ⟨_, rfl⟩
  have hc := refNumber_any q zs short 2 (by omega) (by omega) w h
  have e0 : num (got zs 2) = N := hNN.symm
  rw [e0] at hc
  rw [textGot, textLeft, textShort, ← hNN]
  rw [← hNN] at hN
  clear hNN e0 h
  obtain ⟨Z, hZ⟩ : ∃ Z, Z = left zs 2 := ⟨_, rfl⟩
  obtain ⟨s1, hs1⟩ : ∃ s, s = shortBy zs 2 short := ⟨_, rfl⟩
  rw [← hZ, ← hs1] at hc ⊢
  clear hZ hs1
  go_enter Try.func57, Try.ntmps57
  go_wp2_with fail
  refine hc.mono ?_
  rintro e w1 ⟨rfl, ⟨B, at', a, cap, h0, h1, h2, f1, f2, hr, hlc, hcm, hB, hat, hne, hnil, hz⟩, hbut⟩
  clear hc
  rcases hz with ⟨rfl, rfl⟩ | ⟨rfl, rfl⟩
  · go_wp2
    go_ret
    have e1 : got [] N = [] := by unfold got; split <;> simp
    have e2 : left [] N = [] := by unfold left; split <;> simp
    have e3 : shortBy [] N true = true := by unfold shortBy; split <;> rfl
    rw [e1, e2, e3]
    exact ⟨rfl, ⟨B, at', a, cap, h0, h1, h2, f1, f2, hr, hlc, hcm, hB, hat, hne, hnil, .inl ⟨rfl, rfl⟩⟩, hbut⟩
  · have hdl : (B.drop at').length = B.length - at' := by simp
    by_cases hk : N ≤ B.length - at'
    · have e1 : got (B.drop at') N = (B.drop at').take N := if_pos (by omega)
      have e2 : left (B.drop at') N = B.drop (at' + N) := by rw [left, if_pos (by omega), List.drop_drop]
      have e3 : shortBy (B.drop at') N false = false := if_pos (by omega)
      have HE := Lib.hid (And.intro e1 (And.intro e2 e3))
      clear e1 e2 e3
      go_wp2
      go_quiet (fail)
      go_wp2
      have e5 : (at' : Int) + (N : Int) = ((at' + N : Nat) : Int) := by omega
      rw [e5]
      have hrf : Rf ((w1.drewN nq).setCell ⟨q, 1, none⟩ (.int .i64 ((at' + N : Nat) : Int))) q bd (B.drop (at' + N)) false := rf_step nq h0 h1 h2 f1 f2 hr hlc hcm hB (by omega) hne hnil
      have hb2 : But (fun b => b = q) w1 ((w1.drewN nq).setCell ⟨q, 1, none⟩ (.int .i64 ((at' + N : Nat) : Int))) := ((But.refl (fun b => b = q) w1).drewN nq).setCell (p := ⟨q, 1, none⟩) rfl _
      have c0 : ((w1.drewN nq).setCell ⟨q, 1, none⟩ (.int .i64 ((at' + N : Nat) : Int))).cell? ⟨q, 0, none⟩ = some (.slice a B.length cap) := cell_ne (w := w1.drewN nq) h0 (by simp)
      have c1 : ((w1.drewN nq).setCell ⟨q, 1, none⟩ (.int .i64 ((at' + N : Nat) : Int))).cell? ⟨q, 1, none⟩ = some (.int .i64 ((at' + N : Nat) : Int)) := World.cell?_setCell_same (w1.drewN nq) _ _ h1
      have hrw := hr.but hb2 (fun p hp hn => (hne p hp hn).1)
      obtain ⟨W, hW⟩ : ∃ W, W = (w1.drewN nq).setCell ⟨q, 1, none⟩ (.int .i64 ((at' + N : Nat) : Int)) := ⟨_, rfl⟩
      rw [← hW] at hrf hb2 c0 c1 hrw ⊢
      clear hW h0 h1 h2 f1 f2 e5
      obtain ⟨E, hE⟩ : ∃ E, E = at' + N := ⟨_, rfl⟩
      rw [← hE] at hrf c1 ⊢
      have hsub : (E : Int) - (N : Int) = (at' : Int) := by omega
      have HEE := Lib.hid hE
      have HF := Lib.hid hrf
      have HB2 := Lib.hid hb2
      clear hrf hb2
      by_cases hB0 : B.length = 0
      · have ha0 : at' = 0 := by omega
        have hN0 : N = 0 := by omega
        have hE0 : E = 0 := by omega
        have hBn : B = [] := List.eq_nil_of_length_eq_zero hB0
        clear hrw hr hlc hB hat hne hdl hk hsub hE hB0 hN
        subst ha0 hN0 hE0 hBn
        have hlen0 : ([] : List Int).length = 0 := rfl
        rw [hlen0] at c0
        have hz0 : ((0 : Nat) : Int) = 0 := rfl
        rw [hz0] at c1 ⊢
        have hw0 : IntKind.i64.wrap 0 = 0 := by decide
        have hstr := fun a c n dst hd => run_string_row (P := Try.prog) (Row.nil (w := W.drewN n) (a := a)) 22 5 dst Try.underlying22 Try.underlying5 hd c
        have HNIL := Lib.hid hnil
        rcases a with _ | ad
        · have hcap0 : cap = 0 := hnil rfl
          subst hcap0
          clear hnil
          go_quiet (fail)
          go_wp2
          go_ret
          refine ⟨rfl, HF.out.but ((But.refl (fun _ => False) W).drewN _) (fun h => h) (fun _ _ h => h), hbut.trans' (HB2.out.drewN _)⟩
        · go_quiet (fail)
          go_wp2
          go_ret
          refine ⟨rfl, HF.out.but ((But.refl (fun _ => False) W).drewN _) (fun h => h) (fun _ _ h => h), hbut.trans' (HB2.out.drewN _)⟩
      · obtain ⟨b, off, rfl, hblt, hcell⟩ := hrw.2.2 (by omega)
        have hcm' : cap ≤ 9223372036854775807 := by simpa [maxLen] using hcm
        by_cases hca : cap = at'
        · have hN0 : N = 0 := by omega
          have hE0 : E = at' := by omega
          clear hE hsub hk hdl
          subst hE0 hN0 hca
          have hz0 : ((0 : Nat) : Int) = 0 := rfl
          rw [hz0]
          have hstr := fun n dst hd => run_string_row (P := Try.prog) (Row.nil (w := W.drewN n) (a := some ⟨b, off, none⟩)) 22 5 dst Try.underlying22 Try.underlying5 hd 0
          clear hcell hrw
          go_quiet (fail)
          go_wp2
          go_ret
          rw [HE.out.1, HE.out.2.1, HE.out.2.2]
          refine ⟨rfl, HF.out.but ((But.refl (fun _ => False) W).drewN _) (fun h => h) (fun _ _ h => h), hbut.trans' (HB2.out.drewN _)⟩
        · have hrn : ∀ n, Row (W.drewN n) (some ⟨b, off + at', none⟩) N ((B.drop at').take N) := by
            intro n
            refine ⟨by rw [List.length_take, hdl]; omega, bytes_take (bytes_drop hr.2.1 _) _, fun hn => ⟨b, off + at', rfl, hblt, fun i hi => ?_⟩⟩
            have := hcell (at' + i) (by omega)
            rw [Nat.add_assoc]
            rw [World.cell?_drewN, this]
            simp [List.getD, hi, List.getElem?_drop]
          have hstr := fun n dst hd => run_string_row (P := Try.prog) (hrn n) 22 5 dst Try.underlying22 Try.underlying5 hd (cap - at')
          have hEN : E - at' = N := by omega
          have hElt : (E : Int) ≤ (cap : Int) := by omega
          have hatE : (at' : Int) ≤ (E : Int) := by omega
          clear hrn hcell hrw hE
          go_quiet (fail)
          go_wp2
          go_ret
          rw [HE.out.1, HE.out.2.1, HE.out.2.2, ← HEE.out]
          refine ⟨rfl, HF.out.but ((But.refl (fun _ => False) W).drewN _) (fun h => h) (fun _ _ h => h), hbut.trans' (HB2.out.drewN _)⟩
    · go_wp2
      go_quiet (fail)
      go_wp2
      go_ret
      have e1 : got (B.drop at') N = [] := if_neg (by omega)
      have e2 : left (B.drop at') N = [] := if_neg (by omega)
      have e3 : shortBy (B.drop at') N false = true := if_neg (by omega)
      rw [e1, e2, e3]
      exact ⟨rfl, rf_short _ h0 h1 h2 f1 f2 hr hlc hcm hB hat hne hnil, hbut.trans' (((But.refl (fun b => b = q) w1).drewN _).setCell (p := ⟨q, 2, none⟩) rfl _)⟩
end Go.Proofs.Ytbdbbnpkekcefaa.Pack
